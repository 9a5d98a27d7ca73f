/-
  The model's texts once more: a slice comes back from a bad reader, too.
-/
import Derived.Test.YtkhndofplebcaaaC1
namespace Go.Proofs.Ytkhndofplebcaaa.C1
open Go.RowKit
set_option linter.unusedVariables false

theorem slice_own {w : World} {base n sz : Nat} {t : TypeId} {v : Value} {xs : List Value} (h : w.ownsRow base t sz v n xs) : ∃ A a c, v = .slice A a c := by
  rcases h.2 with ⟨rfl, _⟩ | ⟨b, cap, cur, rfl, _⟩
  · exact ⟨_, _, _, rfl⟩
  · exact ⟨_, _, _, rfl⟩

/-- What texts leaves. -/
def STPost2 (o : Option (List ByteArray × Nat)) (w : World) (g : Nat) (s : ByteArray) (e : Ending) (w' : World) : Prop :=
  w.grownBy w' (some g) ∧
  ((o = none ∧ ∃ A m c q', e = .returned (.slice A m c) ∧ RAt w' g s q' true) ∨
   ∃ l z v, o = some (l, z) ∧ e = .returned v ∧ w'.ownsRow w.heap.size 9 1 v l.length (S9 l) ∧ l.length ≤ 40 ∧ RAt w' g s z false)

/-- What the loop of texts keeps while the reader is good. -/
def TsGood2 (w : World) (g : Nat) (s : ByteArray) (x n : Nat) (i v : Value) (wr : World) : Prop :=
  ∃ (k y : Nat) (l : List ByteArray), k ≤ n ∧ y ≤ s.size ∧ i = .int .i64 ((n - k : Nat) : Int) ∧ Hid (l.length = k) ∧ Hid (run s x k = some (l, y)) ∧ wr.ownsRow w.heap.size 9 1 v k (S9 l) ∧ RAt wr g s y false ∧ w.grownBy wr (some g)
/-- .. and once it is bad. -/
def TsBad2 (w : World) (g : Nat) (s : ByteArray) (x n : Nat) (i v : Value) (wr : World) : Prop :=
  ∃ m q' : Nat, (∃ A a c, v = .slice A a c) ∧ m ≤ 40 ∧ i = .int .i64 (m : Int) ∧ Hid (run s x n = none) ∧ RAt wr g s q' true ∧ w.grownBy wr (some g)

set_option maxRecDepth 100000 in
set_option maxHeartbeats 4000000 in
theorem rtexts_slice (g : Nat) (s : ByteArray) (q : Nat) (w : World) (h : RAt w g s q false) (hs : s.size ≤ 6000) (hq : q ≤ s.size) :
    Calls Try.prog 97 #[.pointer (some ⟨g, 0, none⟩)] w (STPost2 (readTexts s q) w g s) := by
  have HN := Lib.hid (rnum_any g s q w h (Nat.le_trans hs (by decide)) hq)
  have hgw := h.lt
  obtain ⟨i0, hi, hz0, hz1, hz2⟩ := info_parts info9
  go_enter Try.func97, Try.ntmps97
  go_wp2_with fail
  refine HN.out.mono ?_
  rintro e w1 ⟨hG, hres⟩
  rcases hr : M.readNum s.data.toList q with ⟨n, x, ok⟩
  have HR := Lib.hid hr
  rw [hr] at hres
  clear hr
  rcases hres with ⟨hok, rfl, hR⟩ | ⟨hok, rfl, q', hR⟩
  · simp only at hok hR
    subst hok
    obtain ⟨hb1, hb2, hb3, hb4⟩ := M.read_bounds _ q n x HR.out
    rw [drop_len] at hb4
    by_cases h1 : 40 < n
    · have hz : readTexts s q = none := by unfold readTexts; rw [HR.out]; simp; omega
      have HZ := Lib.hid hz
      have f2 := hR.fr 2
      have d2 := hR.c2
      have HS2 := Lib.hid (hR.set2 true)
      have HG2 := Lib.hid (grown_set hG (p := ⟨g, 2, none⟩) rfl (.bool true))
      clear hz
      go_wp2
      refine wp_loop_rounds 1 ?_
      rw [rounds_succ]
      go_wp2
      go_ret
      exact ⟨HG2.out, .inl ⟨HZ.out, _, _, _, _, rfl, HS2.out⟩⟩
    · have h2 : n ≤ 40 := by omega
      have hz : readTexts s q = run s x n := by unfold readTexts; rw [HR.out]; exact if_pos ⟨rfl, h2⟩
      have HZ := Lib.hid hz
      have hx : x ≤ s.size := by omega
      have hG1 := hG
      have hR1 := hR
      have d2 := hR.c2
      clear hz hb1 hb2 hb3 hb4 h1
      go_wp2_with fail
      go_loopw [3, 4] (fun i v wr => TsGood2 w g s x n i v wr ∨ TsBad2 w g s x n i v wr) (fun i _ _ => (intOf i).toNat)
      case atStart => exact .inl ⟨0, x, [], by omega, hx, rfl, rfl, rfl, World.ownsRow_nil _ _ _ _, hR1, hG1⟩
      case round =>
        clear hG1 hR1 d2 hR hG
        rcases hrel with ⟨k, y, l, hk, hy, rfl, HL, HRUN, hown, hR, hG⟩ | ⟨m, q', ⟨A5, a5, c5, rfl⟩, hm, rfl, HNO, hR, hG⟩
        · have d2 := hR.c2
          by_cases hlt : k < n
          · have HT := Lib.hid (rtext_any g s y wr hR hs hy)
            have hm0 : 0 < n - k := by omega
            have hm1 : n - k ≤ 40 := by omega
            obtain ⟨m, hmd⟩ : ∃ m, m = n - k := ⟨_, rfl⟩
            rw [← hmd] at hm0 hm1 ⊢
            have HM := Lib.hid hmd
            rcases ht : readText s y with ⟨t, z, ok⟩
            have HTE := Lib.hid ht
            clear hmd ht
            go_wp2_with fail
            refine HT.out.mono ?_
            rintro e w2 ⟨hG2, hres⟩
            rw [HTE.out] at hres
            have hown2 := own_kept hown hgw hG2
            have hG3 := grown_trans hG hG2
            have hsz2 := hG3.size
            clear hown hG2
            rcases hres with ⟨hok, rfl, hR2⟩ | ⟨hok, rfl, q', hR2⟩
            · simp only at hok hR2
              subst hok
              go_wp2_with (at_builtin; refine wpList_append_own _ rfl (.tmp 23) (.tmp 26) 22 rfl w.heap.size 9 i0 (.string ⟨#[]⟩) 1 16 Try.underlying22 hi hz0 hz1 hz2 rfl (by decide) _ _ _ rfl (hown2.alloc _) ⟨w2.heap.size, 0, none⟩ 1 1 [.string t] rfl rfl (one_at _ _ _) (one_str _) (by unfold maxLen; omega) (by omega) (by simp; omega) ?_; intro v3 w3 hown3 hg3 _)
              have hR3 := rat_app hown2 hgw hg3 hR2
              have hG4 := grown_app hG3 hown2 hg3
              have ho3 := own_snocS hown3
              clear hown3 hg3 hown2
              go_roundw
              case rel => exact .inl ⟨k + 1, z, l ++ [t], by omega, (readText_bounds HTE.out).2.1, by have := HM.out; go_num, by have := HL.out; show (l ++ [t]).length = k + 1; simp; omega, run_go _ _ _ _ _ _ _ HRUN.out HTE.out, ho3, hR3, hG4⟩
              case measure => simp [intOf]; omega
            · simp only at hok
              subst hok
              have HNO := Lib.hid (run_none s x (k + 1) n (run_fail s x k y l HRUN.out (by rw [HTE.out])) (by omega))
              go_wp2_with (at_builtin; refine wpList_append_own _ rfl (.tmp 23) (.tmp 26) 22 rfl w.heap.size 9 i0 (.string ⟨#[]⟩) 1 16 Try.underlying22 hi hz0 hz1 hz2 rfl (by decide) _ _ _ rfl (hown2.alloc _) ⟨w2.heap.size, 0, none⟩ 1 1 [.string ⟨#[]⟩] rfl rfl (one_at _ _ _) (one_str _) (by unfold maxLen; omega) (by omega) (by simp; omega) ?_; intro v3 w3 hown3 hg3 _)
              have hR3 := rat_app hown2 hgw hg3 hR2
              have hG4 := grown_app hG3 hown2 hg3
              have hsl3 := slice_own hown3
              clear hown3 hg3 hown2
              go_roundw
              case rel => exact .inr ⟨m - 1, q', hsl3, by omega, by go_num, HNO.out, hR3, hG4⟩
              case measure => simp [intOf]; omega
          · have hkn : k = n := by omega
            have HKN := Lib.hid hkn
            have hm0 : n - k = 0 := by omega
            rw [hm0]
            clear hkn hm0
            go_wp2
            go_ret
            refine ⟨hG, .inr ⟨l, y, _, by rw [HZ.out, ← HKN.out]; exact HRUN.out, rfl, by rw [HL.out]; exact hown, by have := HL.out; omega, hR⟩⟩
        · have d2 := hR.c2
          by_cases hm0 : 0 < m
          · go_wp2
            go_ret
            exact ⟨hG, .inl ⟨by rw [HZ.out]; exact HNO.out, _, _, _, _, rfl, hR⟩⟩
          · go_wp2
            go_ret
            exact ⟨hG, .inl ⟨by rw [HZ.out]; exact HNO.out, _, _, _, _, rfl, hR⟩⟩
  · simp only at hok
    subst hok
    obtain ⟨rfl, rfl⟩ := M.read_false _ _ _ _ HR.out
    have hz : readTexts s q = none := by unfold readTexts; rw [HR.out]; simp
    have HZ := Lib.hid hz
    clear hz
    go_wp2
    refine wp_loop_rounds 1 ?_
    rw [rounds_succ]
    go_wp2
    go_ret
    exact ⟨hG, .inl ⟨HZ.out, _, _, _, _, rfl, hR⟩⟩
end Go.Proofs.Ytkhndofplebcaaa.C1
