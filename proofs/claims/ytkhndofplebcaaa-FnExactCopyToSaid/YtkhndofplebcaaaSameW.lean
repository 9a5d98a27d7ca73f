/-
  Contracts for the comparison of lists of strings and of writes: slices.Equal of the program, l1SameS and l4SameW of the model.
-/
import Derived.Test.YtkhndofplebcaaaSame
import Derived.Test.YtkhndofplebcaaaStr
namespace Go.Proofs.Ytkhndofplebcaaa
open Go.RowKit CM
set_option linter.unusedVariables false

theorem eq_wr (w : World) (a b : ByteArray) (s t : ByteArray) (g h : Bool) :
    (Op.equalIn 10000 121 (.agg #[.string a, .string s, .bool g]) (.agg #[.string b, .string t, .bool h])).run Try.prog w = .ok (a.toList == b.toList && (s.toList == t.toList && g == h)) w := by
  have hs : ∀ x y : ByteArray, (Op.equalIn 9999 9 (.string x) (.string y)).run Try.prog w = .ok (x.toList == y.toList) w := fun x y => run_equalIn_string w 9998 9 x y Try.underlying9
  have hb : ∀ x y : Bool, (Op.equalIn 9999 4 (.bool x) (.bool y)).run Try.prog w = .ok (x == y) w := fun x y => run_equalIn_bool w 9998 4 x y Try.underlying4
  have hp : ∀ (t : TypeId) (xs : Array Value) (o : Nat) (v : Value), t = 9 ∨ t = 4 → xs[o]? = some v → (part t xs o).run Try.prog w = .ok v w := fun t xs o v ht h => by
    rcases ht with rfl | rfl
    · exact run_part_plain w (by kernel_rfl) h
    · exact run_part_plain w (by kernel_rfl) h
  obtain ⟨f1, f2, f3, hfg, e1, e2, e3⟩ := fields3 fieldsW'
  simp only [Prod.mk.injEq] at e1 e2 e3
  obtain ⟨a1, a2, a3⟩ := e1
  obtain ⟨b1, b2, b3⟩ := e2
  obtain ⟨c1, c2, c3⟩ := e3
  rw [show (10000 : Nat) = 9999 + 1 from rfl, run_equalIn_struct w 9999 121 _ _ (by kernel_rfl) (by kernel_rfl), hfg]
  simp only [Op.eqFields, Sem.run_bind, ne_eq, a1, a2, a3, b1, b2, b3, c1, c2, c3, not_false_eq_true, if_true, String.reduceEq]
  rw [hp 9 _ 0 (.string a) (by simp) rfl]
  simp only [Result.andThen_ok]
  rw [hp 9 _ 0 (.string b) (by simp) rfl]
  simp only [Result.andThen_ok, hs]
  cases h0 : (a.toList == b.toList)
  · simp
  · simp only [Bool.not_true, Bool.false_eq_true, if_false, Sem.run_bind]
    rw [hp 9 _ 1 (.string s) (by simp) rfl]
    simp only [Result.andThen_ok]
    rw [hp 9 _ 1 (.string t) (by simp) rfl]
    simp only [Result.andThen_ok, hs]
    cases h1 : (s.toList == t.toList)
    · simp
    · simp only [Bool.not_true, Bool.false_eq_true, if_false, Sem.run_bind]
      rw [hp 4 _ 2 (.bool g) (by simp) rfl]
      simp only [Result.andThen_ok]
      rw [hp 4 _ 2 (.bool h) (by simp) rfl]
      simp only [Result.andThen_ok, hb]
      cases h2 : (g == h) <;> simp


theorem wr_same {a b s t : ByteArray} {g h : Bool} (e : (a.toList == b.toList && (s.toList == t.toList && g == h)) = true) : ((a, s, g) : (ByteArray × ByteArray × Bool)) = (b, t, h) := by
  simp only [Bool.and_eq_true, beq_iff_eq] at e
  obtain ⟨e1, e2, rfl⟩ := e
  rw [list_inj e1, list_inj e2]
theorem wr_other {a b s t : ByteArray} {g h : Bool} (e : (a.toList == b.toList && (s.toList == t.toList && g == h)) = false) : ((a, s, g) : (ByteArray × ByteArray × Bool)) ≠ (b, t, h) := by
  intro e2
  simp only [Prod.mk.injEq] at e2
  obtain ⟨rfl, rfl, rfl⟩ := e2
  simp at e

set_option maxRecDepth 100000 in
set_option maxHeartbeats 1000000 in
theorem equalS_any (A A' : Option Addr) (n m c c' : Nat) (vs us : List ByteArray) (B : Nat) (w : World) (hn : vs.length = n) (hm : us.length = m) (h : StrsB w B A vs) (h' : StrsB w B A' us) (hB : B ≤ w.heap.size) (hl : n ≤ 1048576) (hl' : m ≤ 1048576) :
    Calls Try.prog 166 #[.slice A n c, .slice A' m c'] w fun e w' => e = .returned (.bool (decide (vs = us))) ∧ ∃ q, w' = w.drewN q := by
  have hge := Nat.le_of_eq hn
  have hle := Nat.le_of_eq hn.symm
  have hge' := Nat.le_of_eq hm
  have hle' := Nat.le_of_eq hm.symm
  have HS := Lib.hid h
  have HS' := Lib.hid h'
  obtain ⟨r, hr⟩ : ∃ r, r = decide (vs = us) := ⟨_, rfl⟩
  have HR := Lib.hid hr
  rw [← hr]
  clear hn hm h h' hr
  by_cases hnm : n = m
  · subst hnm
    go_enter Try.func166, Try.ntmps166
    go_wp2
    go_loopw [13] (fun i wr => ∃ k : Nat, k ≤ n ∧ i = .int .i64 k ∧ Hid (vs.take k = us.take k) ∧ ∃ q, wr = w.drewN q) (fun i _ => n - (intOf i).toNat)
    case atStart => exact ⟨0, by omega, rfl, rfl, 0, rfl⟩
    case round =>
      obtain ⟨k, hk, rfl, HT, q, rfl⟩ := hrel
      by_cases hlt : k < n
      · obtain ⟨b, off, rfl, hbB, hc⟩ := HS.out.get (by omega)
        obtain ⟨b', off', rfl, hbB', hc'⟩ := HS'.out.get (by omega)
        have c0 := hc k (by omega)
        have d0 := hc' k (by omega)
        obtain ⟨x, hx⟩ : ∃ x, x = vs[k]'(by omega) := ⟨_, rfl⟩
        obtain ⟨y, hy⟩ : ∃ y, y = us[k]'(by omega) := ⟨_, rfl⟩
        rw [← hx] at c0
        rw [← hy] at d0
        have HX := Lib.hid hx
        have HY := Lib.hid hy
        have hk0 : (0 : Int) ≤ (k : Int) := by omega
        have hkn : (k : Int) < (n : Int) := by omega
        clear hc hc' hx hy
        cases hv : (x.toList == y.toList) with
        | false =>
          have HNO := Lib.hid (ret_bool (show false = r by rw [HR.out]; exact (decide_eq_false (ne_at (k := k) (by omega) (by omega) (by rw [← HX.out, ← HY.out]; exact fun e => by rw [e] at hv; simp at hv))).symm))
          go_wp2_with fail
          go_quiet (fail)
          go_wp2
          go_ret
          exact ⟨HNO.out, _, by rw [World.drewN_drewN]⟩
        | true =>
          have HT' := Lib.hid (take_eq_succ HT.out (show k < vs.length by omega) (show k < us.length by omega) (by rw [← HX.out, ← HY.out]; exact list_inj (eq_of_beq hv)))
          go_wp2_with fail
          go_quiet (fail)
          go_wp2
          go_roundw
          case rel => exact ⟨k + 1, by omega, by go_num, HT'.out, _, rfl⟩
          case measure => simp [intOf]; omega
      · have HYES := Lib.hid (ret_bool (show true = r by rw [HR.out]; exact (decide_eq_true (take_eq_all HT.out (by omega) (by omega))).symm))
        go_wp2
        go_ret
        exact ⟨HYES.out, _, rfl⟩
  · have HNO := Lib.hid (ret_bool (show false = r by rw [HR.out]; exact (decide_eq_false (fun e => by subst e; omega)).symm))
    have hne : ((n : Int) == (m : Int)) = false := by simp; omega
    go_enter Try.func166, Try.ntmps166
    go_wp2
    go_ret
    exact ⟨HNO.out, 0, rfl⟩

set_option maxRecDepth 100000 in
set_option maxHeartbeats 1000000 in
theorem equalW_any (A A' : Option Addr) (n m c c' : Nat) (vs us : List (ByteArray × ByteArray × Bool)) (B : Nat) (w : World) (hn : vs.length = n) (hm : us.length = m) (h : WritesB w B A vs) (h' : WritesB w B A' us) (hB : B ≤ w.heap.size) (hl : n ≤ 1048576) (hl' : m ≤ 1048576) :
    Calls Try.prog 167 #[.slice A n c, .slice A' m c'] w fun e w' => e = .returned (.bool (decide (vs = us))) ∧ ∃ q, w' = w.drewN q := by
  have hge := Nat.le_of_eq hn
  have hle := Nat.le_of_eq hn.symm
  have hge' := Nat.le_of_eq hm
  have hle' := Nat.le_of_eq hm.symm
  have HS := Lib.hid h
  have HS' := Lib.hid h'
  obtain ⟨r, hr⟩ : ∃ r, r = decide (vs = us) := ⟨_, rfl⟩
  have HR := Lib.hid hr
  rw [← hr]
  clear hn hm h h' hr
  by_cases hnm : n = m
  · subst hnm
    go_enter Try.func167, Try.ntmps167
    go_wp2
    go_loopw [13] (fun i wr => ∃ k : Nat, k ≤ n ∧ i = .int .i64 k ∧ Hid (vs.take k = us.take k) ∧ ∃ q, wr = w.drewN q) (fun i _ => n - (intOf i).toNat)
    case atStart => exact ⟨0, by omega, rfl, rfl, 0, rfl⟩
    case round =>
      obtain ⟨k, hk, rfl, HT, q, rfl⟩ := hrel
      by_cases hlt : k < n
      · obtain ⟨b, off, rfl, hbB, hc⟩ := HS.out.get (by omega)
        obtain ⟨b', off', rfl, hbB', hc'⟩ := HS'.out.get (by omega)
        obtain ⟨c0, c1, c2⟩ := hc k (by omega)
        obtain ⟨d0, d1, d2⟩ := hc' k (by omega)
        obtain ⟨x, hx⟩ : ∃ x, x = vs[k]'(by omega) := ⟨_, rfl⟩
        obtain ⟨y, hy⟩ : ∃ y, y = us[k]'(by omega) := ⟨_, rfl⟩
        rw [← hx] at c0 c1 c2
        rw [← hy] at d0 d1 d2
        obtain ⟨t1, s1, g1⟩ := x
        obtain ⟨t2, s2, g2⟩ := y
        simp only at c0 c1 c2 d0 d1 d2
        have HX := Lib.hid hx
        have HY := Lib.hid hy
        have hk0 : (0 : Int) ≤ (k : Int) := by omega
        have hkn : (k : Int) < (n : Int) := by omega
        have heq := fun W => eq_wr W t1 t2 s1 s2 g1 g2
        clear hc hc' hx hy
        cases hv : (t1.toList == t2.toList && (s1.toList == s2.toList && g1 == g2)) with
        | false =>
          rw [hv] at heq
          have HNO := Lib.hid (ret_bool (show false = r by rw [HR.out]; exact (decide_eq_false (ne_at (k := k) (by omega) (by omega) (by rw [← HX.out, ← HY.out]; exact wr_other hv))).symm))
          clear hv
          go_wp2_with fail
          go_quiet (fail)
          go_wp2
          go_ret
          exact ⟨HNO.out, _, by rw [World.drewN_drewN]⟩
        | true =>
          rw [hv] at heq
          have HT' := Lib.hid (take_eq_succ HT.out (show k < vs.length by omega) (show k < us.length by omega) (by rw [← HX.out, ← HY.out]; exact wr_same hv))
          clear hv
          go_wp2_with fail
          go_quiet (fail)
          go_wp2
          go_roundw
          case rel => exact ⟨k + 1, by omega, by go_num, HT'.out, _, rfl⟩
          case measure => simp [intOf]; omega
      · have HYES := Lib.hid (ret_bool (show true = r by rw [HR.out]; exact (decide_eq_true (take_eq_all HT.out (by omega) (by omega))).symm))
        go_wp2
        go_ret
        exact ⟨HYES.out, _, rfl⟩
  · have HNO := Lib.hid (ret_bool (show false = r by rw [HR.out]; exact (decide_eq_false (fun e => by subst e; omega)).symm))
    have hne : ((n : Int) == (m : Int)) = false := by simp; omega
    go_enter Try.func167, Try.ntmps167
    go_wp2
    go_ret
    exact ⟨HNO.out, 0, rfl⟩

end Go.Proofs.Ytkhndofplebcaaa
