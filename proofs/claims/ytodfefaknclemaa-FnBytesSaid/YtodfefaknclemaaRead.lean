/-
  Contracts for canRead, l1Place and the program's numAt: it gives what 'M.readNum' says of the bytes at the offset.
-/
import Derived.Test.YtodfefaknclemaaNumLaw
import Derived.Test.YtodfefaknclemaaMath3
namespace Go.Proofs.Ytodfefaknclemaa
open Go.RowKit

/-- The offset at which readers may begin. -/
def Place (s : ByteArray) (q : Int) : Prop := s.size ≤ 6000 ∧ 0 ≤ q ∧ q ≤ s.size

set_option maxHeartbeats 400000 in
theorem canRead_yes (s : ByteArray) (q : Int) (w : World) (h : Place s q) :
    Calls Try.prog 59 #[.string s, .int .i64 q] w fun e w' => e = .returned (.bool true) ∧ w = w' := by
  obtain ⟨h1, h2, h3⟩ := h
  go_enter Try.func59, Try.ntmps59
  go_wp2
  go_ret
  exact ⟨rfl, rfl⟩

set_option maxHeartbeats 400000 in
theorem canRead_no (s : ByteArray) (q : Int) (w : World) (hm : s.size ≤ maxLen) (h : ¬ Place s q) :
    Calls Try.prog 59 #[.string s, .int .i64 q] w fun e w' => e = .returned (.bool false) ∧ w = w' := by
  unfold maxLen at hm
  unfold Place at h
  by_cases h1 : s.size ≤ 6000
  · by_cases h2 : 0 ≤ q
    · have h3 : decide (q ≤ (s.size : Int)) = false := by simp; omega
      clear h
      go_enter Try.func59, Try.ntmps59
      go_wp2
      go_ret
      exact ⟨rfl, rfl⟩
    · have h3 : decide (0 ≤ q) = false := by simp; omega
      clear h
      go_enter Try.func59, Try.ntmps59
      go_wp2
      go_ret
      exact ⟨rfl, rfl⟩
  · have h3 : decide ((s.size : Int) ≤ 6000) = false := by simp; omega
    clear h
    go_enter Try.func59, Try.ntmps59
    go_wp2
    go_ret
    exact ⟨rfl, rfl⟩

set_option maxHeartbeats 400000 in
theorem l1Place_yes (s : ByteArray) (q : Int) (w : World) (h : Place s q) :
    Calls Try.prog 63 #[.string s, .int .i64 q] w fun e w' => e = .returned (.bool true) ∧ w = w' := by
  obtain ⟨h1, h2, h3⟩ := h
  go_enter Try.func63, Try.ntmps63
  go_wp2_with fail
  refine (l1In_yes _ _ _ _ h2 h3).mono ?_
  rintro e w' ⟨rfl, rfl⟩
  go_wp2
  go_ret
  exact ⟨rfl, rfl⟩

set_option maxHeartbeats 400000 in
theorem l1Place_no (s : ByteArray) (q : Int) (w : World) (hm : s.size ≤ maxLen) (h : ¬ Place s q) :
    Calls Try.prog 63 #[.string s, .int .i64 q] w fun e w' => e = .returned (.bool false) ∧ w = w' := by
  unfold maxLen at hm
  unfold Place at h
  by_cases h1 : s.size ≤ 6000
  · have h2 : q < 0 ∨ (s.size : Int) < q := by omega
    have H := Lib.hid h2
    clear h2 h
    go_enter Try.func63, Try.ntmps63
    go_wp2_with fail
    refine (l1In_no _ _ _ _ H.out).mono ?_
    rintro e w' ⟨rfl, rfl⟩
    go_wp2
    go_ret
    exact ⟨rfl, rfl⟩
  · have h3 : decide ((s.size : Int) ≤ 6000) = false := by simp; omega
    clear h
    go_enter Try.func63, Try.ntmps63
    go_wp2
    go_ret
    exact ⟨rfl, rfl⟩

/-- U is 128 ^ k, with the bounds that the walk wants. -/
def Unit (k U : Nat) : Prop := U = 128 ^ k
theorem unit_step {k U : Nat} (h : Unit k U) : Unit (k + 1) (U * 128) := by unfold Unit at *; rw [h, Nat.pow_succ]
theorem unit_small {k U : Nat} (h : Unit k U) (hk : k < 5) : 1 ≤ U ∧ U ≤ 268435456 := by
  unfold Unit at h
  subst h
  have : k = 0 ∨ k = 1 ∨ k = 2 ∨ k = 3 ∨ k = 4 := by omega
  rcases this with rfl | rfl | rfl | rfl | rfl <;> simp
theorem unit_big {U : Nat} (h : Unit 5 U) : U = 34359738368 := by unfold Unit at h; omega

/-- What the loop of numAt keeps. -/
def AtRel (s : ByteArray) (q : Nat) (n u i : Value) : Prop :=
  ∃ k U : Nat, k ≤ 5 ∧ q + k ≤ s.size ∧ M.High (s.data.toList.drop q) k ∧ Unit k U ∧ n = .int .i64 (M.vl ((s.data.toList.drop q).take k) : Nat) ∧ u = .int .i64 (U : Nat) ∧ i = .int .i64 ((q + k : Nat) : Int)

/-- The byte at q + k as the walk reads it and as the lists say it. -/
theorem byte_at (s : ByteArray) (q k : Nat) (h : q + k < s.size) : (s.data.toList.drop q).getD k 0 = s[q + k] := by
  rw [List.getD, List.getElem?_drop, Array.getElem?_toList, Array.getElem?_eq_getElem h]
  rfl
theorem drop_len (s : ByteArray) (q : Nat) : (s.data.toList.drop q).length = s.size - q := by simp
theorem prod_bound (c U : Nat) (hU : U ≤ 268435456) : 0 ≤ (c : Int) % 128 * (U : Int) ∧ (c : Int) % 128 * (U : Int) ≤ 34091302912 := by
  have h1 : 0 ≤ (c : Int) % 128 := by omega
  have h2 : (c : Int) % 128 ≤ 127 := by omega
  refine ⟨Int.mul_nonneg h1 (by omega), ?_⟩
  calc (c : Int) % 128 * (U : Int) ≤ 127 * (U : Int) := Int.mul_le_mul_of_nonneg_right h2 (by omega)
    _ ≤ 34091302912 := by omega
/-- What has been read after one byte more. -/
theorem vl_more (s : ByteArray) (q k U n : Nat) (h : q + k < s.size) (hU : Unit k U) (hn : n = M.vl ((s.data.toList.drop q).take k)) :
    (n : Int) + (s[q + k].toNat : Int) % 128 * (U : Int) = (M.vl ((s.data.toList.drop q).take (k + 1)) : Nat) := by
  rw [M.vl_take _ _ (by rw [drop_len]; omega), byte_at s q k h, ← hn]
  unfold Unit at hU
  subst hU
  simp
theorem vl_more_lt (s : ByteArray) (q k U : Nat) (h : q + k ≤ s.size) (hU : Unit k U) : M.vl ((s.data.toList.drop q).take k) < U := by
  have := M.vl_lt ((s.data.toList.drop q).take k)
  rw [List.length_take, Nat.min_eq_left (by rw [drop_len]; omega)] at this
  unfold Unit at hU; rw [hU]; exact this
theorem ret_read (a : Nat × Nat × Bool) (x y : Int) (b : Bool) (h1 : (a.1 : Int) = x) (h2 : (a.2.1 : Int) = y) (h3 : a.2.2 = b) :
    Ending.returned (.tuple #[.int .i64 x, .int .i64 y, .bool b]) = Ending.returned (.tuple #[.int .i64 a.1, .int .i64 a.2.1, .bool a.2.2]) := by
  rw [h1, h2, h3]

set_option maxRecDepth 100000 in
set_option maxHeartbeats 2000000 in
theorem numAt_any (s : ByteArray) (q : Nat) (w : World) (hs : s.size ≤ 6000) (hq : q ≤ s.size) :
    Calls Try.prog 60 #[.string s, .int .i64 (q : Int)] w fun e w' => e = .returned (.tuple #[.int .i64 (M.readNum s.data.toList q).1, .int .i64 (M.readNum s.data.toList q).2.1, .bool (M.readNum s.data.toList q).2.2]) ∧ w = w' := by
  go_enter Try.func60, Try.ntmps60
  go_wp2
  go_loop [7, 8, 9] (fun n u i => AtRel s q n u i) (fun _ _ i => s.size - (intOf i).toNat)
  case atStart => exact ⟨0, 1, by omega, by omega, fun j hj => by omega, rfl, rfl, rfl, rfl⟩
  case round =>
    obtain ⟨k, U, hk, hkl, hhi, hU, rfl, rfl, rfl⟩ := hrel
    by_cases hlt : q + k < s.size
    · by_cases hk5 : k < 5
      · obtain ⟨hu1, hu2⟩ := unit_small hU hk5
        obtain ⟨n, hn⟩ : ∃ n, n = M.vl ((s.data.toList.drop q).take k) := ⟨_, rfl⟩
        have hnU : n < U := by rw [hn]; exact vl_more_lt s q k U hkl hU
        have HT := Lib.hid (vl_more s q k U n hlt hU hn)
        have HB := Lib.hid (byte_at s q k hlt)
        obtain ⟨hp1, hp2⟩ := prod_bound s[q + k].toNat U hu2
        rw [← hn]
        clear hn
        by_cases hc : 128 ≤ s[q + k].toNat
        · go_wp2
          go_round
          case rel => exact ⟨k + 1, U * 128, by omega, by omega, hhi.step (by rw [HB.out]; exact hc), unit_step hU, val_int HT.out, by go_num, by go_num⟩
          case measure => simp [intOf]; omega
        · have hc' : (s[q + k].toNat : Int) < 128 := by omega
          have hr := M.read_stop _ q k hhi hk5 (by rw [drop_len]; omega) (by rw [HB.out]; omega)
          have HR := Lib.hid hr
          clear hr
          by_cases ht : 1000000000 < (n : Int) + (s[q + k].toNat : Int) % 128 * (U : Int)
          · go_wp2
            go_ret3
            refine ⟨?_, rfl⟩
            have hh : M.readNum s.data.toList q = (0, 0, false) := by
              have := HT.out
              exact HR.out.trans (if_neg (by omega))
            rw [hh]; rfl
          · by_cases hz : k = 0 ∨ s[q + k].toNat ≠ 0
            · have hh : M.readNum s.data.toList q = (M.vl ((s.data.toList.drop q).take (k + 1)), q + k + 1, true) := by
                have := HT.out
                exact HR.out.trans (if_pos ⟨by omega, by rw [HB.out]; exact hz⟩)
              have HH := Lib.hid hh
              clear hh
              by_cases hz1 : 0 < s[q + k].toNat
              · clear hz
                go_wp2
                go_ret3
                refine ⟨?_, rfl⟩
                rw [HH.out]
                exact ret_read (_, _, _) _ _ _ HT.out.symm (by simp) rfl
              · have hz2 : k ≤ 0 := by omega
                have h0 : (s[q + k].toNat : Int) % 128 = 0 := by omega
                have ht0 : ((M.vl ((s.data.toList.drop q).take (k + 1)) : Nat) : Int) = (n : Int) := by rw [← HT.out, h0]; simp
                have HT0 := Lib.hid ht0
                clear hz h0 ht0
                go_wp2
                go_ret3
                refine ⟨?_, rfl⟩
                rw [HH.out]
                exact ret_read (_, _, _) _ _ _ HT0.out (by simp) rfl
            · have hz1 : s[q + k].toNat ≤ 0 := by omega
              have hz2 : 0 < k := by omega
              have hh : M.readNum s.data.toList q = (0, 0, false) := HR.out.trans (if_neg (by rw [HB.out]; exact fun h => hz h.2))
              have HH := Lib.hid hh
              clear hh hz
              go_wp2
              go_ret3
              refine ⟨?_, rfl⟩
              rw [HH.out]; rfl
      · have hk6 : 5 ≤ k := by omega
        obtain rfl : k = 5 := by omega
        have hub := unit_big hU
        subst hub
        have hh : M.readNum s.data.toList q = (0, 0, false) := M.read_end _ q 5 hhi (by omega) (by rw [drop_len]; omega) (.inl rfl)
        have HH := Lib.hid hh
        clear hh
        go_wp2
        go_ret3
        refine ⟨?_, rfl⟩
        rw [HH.out]; rfl
    · have hh : M.readNum s.data.toList q = (0, 0, false) := M.read_end _ q k hhi hk (by rw [drop_len]; omega) (.inr (by rw [drop_len]; omega))
      have HH := Lib.hid hh
      clear hh
      go_wp2
      go_ret3
      refine ⟨?_, rfl⟩
      rw [HH.out]; rfl
end Go.Proofs.Ytodfefaknclemaa
