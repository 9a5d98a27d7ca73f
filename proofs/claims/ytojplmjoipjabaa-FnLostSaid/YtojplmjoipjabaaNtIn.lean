/-
  Contracts for letters put in and taken out by the model: l7In, l7Out.
-/
import Derived.Test.YtojplmjoipjabaaNtOwn2
import Derived.Test.YtojplmjoipjabaaNtGood3
import Derived.Deep.AppendLies
import Derived.Deep.RegionLaw
import Derived.Deep.QuietTactic
import Derived.BigQuiet
namespace Go.Proofs.Ytojplmjoipjabaa.Nt
open Go.RowKit
set_option linter.unusedVariables false
set_option linter.unusedSimpArgs false

theorem flat_split (a b : List (Int × Int × Int × ByteArray)) : ((a ++ b).map ltCs).flatten = (a.map ltCs).flatten ++ (b.map ltCs).flatten := by
  rw [List.map_append, List.flatten_append]
section
variable {w w' : World} {lo hi cap n : Nat} {A : Option Addr} {ls us : List (Int × Int × Int × ByteArray)}
theorem OwnL.toR (h : OwnL w lo hi A cap ls) (hn : ls.length = n) : w.ownsRow lo 66 4 (.slice A n cap) n ((ls.map ltCs).flatten) := by
  have := Own.toRow h (ltCs_len _) (by decide)
  rw [List.length_map, hn] at this
  exact this
theorem ownL_of {v : Value} {xs : List Value} (h : w.ownsRow lo 66 4 v n xs) (hx : xs = (us.map ltCs).flatten) (hn : us.length = n) : ∃ A c, v = .slice A n c ∧ OwnL w lo w.heap.size A c us := by
  subst hx
  obtain ⟨A, c, hv, _, ho⟩ := Own.ofRow h (ltCs_len _) (by decide) (hi := w.heap.size) (fun k hk => (h.lt k hk).2)
  rw [List.length_map, hn] at hv
  exact ⟨A, c, hv, ho⟩
theorem OwnL.room (h : OwnL w lo hi A cap ls) : ls.length ≤ cap ∧ cap ≤ maxLen := by
  rcases h with ⟨h, _, rfl⟩ | ⟨g, cur, _, _, _, _, h1, h2, _⟩
  · rw [List.map_eq_nil_iff] at h; subst h; exact ⟨Nat.le_refl _, Nat.zero_le _⟩
  · exact ⟨by simpa using h1, h2⟩
end
theorem flat_len4 (us : List (Int × Int × Int × ByteArray)) (k : Nat) (h : us.length = k) : ((us.map ltCs).flatten).length = k * 4 := by rw [flat_len (ltCs_len _), List.length_map, h]
theorem outL_nil (ls : List (Int × Int × Int × ByteArray)) : outL ls 0 = ls.drop 1 := by simp [outL]

set_option maxRecDepth 100000 in
set_option maxHeartbeats 4000000 in
theorem l7In_any (A : Option Addr) (n c : Nat) (ls : List (Int × Int × Int × ByteArray)) (f t d : Int) (s : ByteArray) (B : Nat) (w : World) (hn : ls.length = n) (h : LetsB w B A ls) (hB : B ≤ w.heap.size) (hl : n ≤ 1048576) (hcn : n ≤ c) (hc : c ≤ maxLen) :
    Calls Try.prog 80 #[.slice A n c, .agg #[.int .i64 f, .int .i64 t, .int .i64 d, .string s]] w (CopyL (insL ls (f, t, d, s)) (n + 1) w) := by
  obtain ⟨i0, hi0, hz0, hz1, hz2⟩ := info_parts infoLet
  have hc63 : c ≤ 9223372036854775807 := by unfold maxLen at hc; omega
  have hc64 : (c : Int) ≤ 9223372036854775807 := by omega
  have hge := Nat.le_of_eq hn
  have hle := Nat.le_of_eq hn.symm
  have HLS := Lib.hid h
  have hb0 := below1 w (.cells #[.int .i64 f, .int .i64 t, .int .i64 d, .string s] 66)
  have hkb := heap_alloc_new w (.cells #[.int .i64 f, .int .i64 t, .int .i64 d, .string s] 66)
  have HB0 := Lib.hid hb0
  have x0 : (w.alloc (.cells #[.int .i64 f, .int .i64 t, .int .i64 d, .string s] 66)).cell? ⟨w.heap.size, 0, none⟩ = some (.int .i64 f) := cell_of_row _ _ 0 _ 66 (0, 0) hkb
  have x1 : (w.alloc (.cells #[.int .i64 f, .int .i64 t, .int .i64 d, .string s] 66)).cell? ⟨w.heap.size, 1, none⟩ = some (.int .i64 t) := cell_of_row _ _ 1 _ 66 (0, 0) hkb
  have x2 : (w.alloc (.cells #[.int .i64 f, .int .i64 t, .int .i64 d, .string s] 66)).cell? ⟨w.heap.size, 2, none⟩ = some (.int .i64 d) := cell_of_row _ _ 2 _ 66 (0, 0) hkb
  have x3 : (w.alloc (.cells #[.int .i64 f, .int .i64 t, .int .i64 d, .string s] 66)).cell? ⟨w.heap.size, 3, none⟩ = some (.string s) := cell_of_row _ _ 3 _ 66 (0, 0) hkb
  have hlt0 : w.heap.size < (w.alloc (.cells #[.int .i64 f, .int .i64 t, .int .i64 d, .string s] 66)).heap.size := by simp
  have HN := Lib.hid hn
  clear h hkb hn
  go_enter Try.func80, Try.ntmps80
  go_wp2_with fail
  obtain ⟨W0, hW0⟩ : ∃ W0, W0 = w.alloc (.cells #[.int .i64 f, .int .i64 t, .int .i64 d, .string s] 66) := ⟨_, rfl⟩
  rw [← hW0] at hb0 HB0 x0 x1 x2 x3 hlt0 ⊢
  clear hW0
  go_loopw [5] (fun i wr => ∃ k : Nat, k ≤ n ∧ i = .int .i64 k ∧ Hid (∀ j (h : j < ls.length), j < k → ls[j].2.2.1 ≤ d) ∧ Hid (Below W0.heap.size W0 wr)) (fun i _ => n - (intOf i).toNat)
  case atStart => exact ⟨0, by omega, rfl, fun j h hj => absurd hj (Nat.not_lt_zero j), Below.refl _ _⟩
  case round =>
    obtain ⟨k, hk, rfl, HP, HBW⟩ := hrel
    have y0 := (HBW.out.cell (p := ⟨w.heap.size, 0, none⟩) hlt0).trans x0
    have y1 := (HBW.out.cell (p := ⟨w.heap.size, 1, none⟩) hlt0).trans x1
    have y2 := (HBW.out.cell (p := ⟨w.heap.size, 2, none⟩) hlt0).trans x2
    have y3 := (HBW.out.cell (p := ⟨w.heap.size, 3, none⟩) hlt0).trans x3
    have hk0 : (0 : Int) ≤ (k : Int) := by omega
    by_cases hlt : k < n
    · obtain ⟨b, off, hA, hbB, hcl⟩ := HLS.out.get (by omega)
      subst hA
      obtain ⟨hc0, hc1, hc2, hc3⟩ := hcl k (by omega)
      have hbw : b < w.heap.size := Nat.lt_of_lt_of_le hbB hB
      have c2 := ((HB0.out.trans (HBW.out.mono HB0.out.size)).cell (p := ⟨b, off + k * 4 + 2, none⟩) hbw).trans hc2
      have hkn : (k : Int) < (n : Int) := by omega
      by_cases hd : (ls[k]'(by omega)).2.2.1 ≤ d
      · have HP2 := Lib.hid (show ∀ j (h : j < ls.length), j < k + 1 → ls[j].2.2.1 ≤ d from fun j h hj => by
          rcases Nat.lt_or_ge j k with h1 | h1
          · exact HP.out j h h1
          · have : j = k := by omega
            subst this; exact hd)
        obtain ⟨dd, hdd⟩ : ∃ dd, dd = (ls[k]'(by omega)).2.2.1 := ⟨_, rfl⟩
        rw [← hdd] at c2 hd
        clear hdd hc0 hc1 hc2 hc3 hcl
        go_wp2_with fail
        go_quiet (fail)
        go_wp2
        go_roundw
        case rel => exact ⟨k + 1, by omega, by go_num, HP2, below_drewN HBW.out _⟩
        case measure => simp [intOf]; omega
      · have HK := Lib.hid (show dueK ls d = k from dueK_eq (by omega) HP.out (fun h => by omega))
        have hdf : decide ((ls[k]'(by omega)).2.2.1 ≤ d) = false := by simpa using hd
        obtain ⟨dd, hdd⟩ : ∃ dd, dd = (ls[k]'(by omega)).2.2.1 := ⟨_, rfl⟩
        rw [← hdd] at c2 hdf
        clear hdd hc0 hc1 hc2 hc3 hcl hd
        go_wp2_with fail
        go_quiet (fail)
        go_wp2_with fail
        obtain ⟨W1, hW1⟩ : ∃ W1, W1 = wr.drewN nq := ⟨_, rfl⟩
        have hbw1 : Below W0.heap.size W0 W1 := by rw [hW1]; first | exact HBW.out | exact below_drewN HBW.out _
        have z0 : W1.cell? ⟨w.heap.size, 0, none⟩ = some (.int .i64 f) := by rw [hW1]; exact y0
        have z1 : W1.cell? ⟨w.heap.size, 1, none⟩ = some (.int .i64 t) := by rw [hW1]; exact y1
        have z2 : W1.cell? ⟨w.heap.size, 2, none⟩ = some (.int .i64 d) := by rw [hW1]; exact y2
        have z3 : W1.cell? ⟨w.heap.size, 3, none⟩ = some (.string s) := by rw [hW1]; exact y3
        rw [← hW1]
        clear hW1 y0 y1 y2 y3
        have hbw2 := HB0.out.trans (hbw1.mono HB0.out.size)
        have hl1 : w.heap.size < W1.heap.size := Nat.lt_of_lt_of_le hlt0 hbw1.size
        have HL := Lib.hid (fun W (hW : Below W1.heap.size W1 W) => l7OwnL_any (some ⟨b, off, none⟩) k c (ls.take k) B W (by rw [List.length_take]; omega) ((HLS.out.head k).below ((hbw2.trans (hW.mono hbw2.size)).mono hB)) (Nat.le_trans hB (hbw2.trans (hW.mono hbw2.size)).size) (by omega))
        have HT := Lib.hid (show (ls.take k).length = k by rw [List.length_take]; omega)
        have HF := Lib.hid (flat_len4 (ls.drop k) (n - k) (by rw [List.length_drop]; omega))
        have HONE := Lib.hid (ltCs_one (ls.drop k))
        have HW := Lib.hid (show ∀ v' w', w'.ownsRow W1.heap.size 66 4 v' (k + 1 + (n - k)) ((((ls.take k).map ltCs).flatten ++ [.int .i64 f, .int .i64 t, .int .i64 d, .string s]) ++ ((ls.drop k).map ltCs).flatten) → ∃ A c, v' = .slice A (n + 1) c ∧ OwnL w' W1.heap.size w'.heap.size A c (insL ls (f, t, d, s)) from fun v' w' ho => by
          have e : insL ls (f, t, d, s) = ls.take k ++ (f, t, d, s) :: ls.drop k := by unfold insL; simp only; rw [HK.out]
          have hlen : (insL ls (f, t, d, s)).length = k + 1 + (n - k) := by rw [insL_len]; omega
          obtain ⟨A, c, hv, ho2⟩ := ownL_of (us := insL ls (f, t, d, s)) ho (by rw [e, flat_split]; simp [ltCs]) hlen
          rw [show k + 1 + (n - k) = n + 1 by omega] at hv
          exact ⟨A, c, hv, ho2⟩)
        have hp := HLS.out.part k (by omega)
        simp only [Option.map_some] at hp
        have HSRC := Lib.hid (fun W (hW : Below W1.heap.size W1 W) (h0 : 0 < n - k) => lets_src (hp.below ((hbw2.trans (hW.mono hbw2.size)).mono hB)) (show (ls.drop k).length = n - k by rw [List.length_drop]; omega) h0)
        have hck : ¬ (c = k) := by omega
        have hck0 : ¬ (c = 0) := by omega
        have hbel := Below.refl W1.heap.size W1
        have HS0 : W1.drew.cell? ⟨w.heap.size, 0, none⟩ = some (.int .i64 f) ∧ W1.drew.cell? ⟨w.heap.size, 1, none⟩ = some (.int .i64 t) ∧ W1.drew.cell? ⟨w.heap.size, 2, none⟩ = some (.int .i64 d) ∧ W1.drew.cell? ⟨w.heap.size, 3, none⟩ = some (.string s) := ⟨z0, z1, z2, z3⟩
        have hbx : Below W1.heap.size W1 (W1.alloc (.cells #[.int .i64 f, .int .i64 t, .int .i64 d, .string s] 66)) := (Below.refl _ _).alloc (Nat.le_refl _) _
        have HS1 : (W1.alloc (.cells #[.int .i64 f, .int .i64 t, .int .i64 d, .string s] 66)).drew.cell? ⟨w.heap.size, 0, none⟩ = some (.int .i64 f) ∧ (W1.alloc (.cells #[.int .i64 f, .int .i64 t, .int .i64 d, .string s] 66)).drew.cell? ⟨w.heap.size, 1, none⟩ = some (.int .i64 t) ∧ (W1.alloc (.cells #[.int .i64 f, .int .i64 t, .int .i64 d, .string s] 66)).drew.cell? ⟨w.heap.size, 2, none⟩ = some (.int .i64 d) ∧ (W1.alloc (.cells #[.int .i64 f, .int .i64 t, .int .i64 d, .string s] 66)).drew.cell? ⟨w.heap.size, 3, none⟩ = some (.string s) := ⟨kept2 hbx z0 hl1, kept2 hbx z1 hl1, kept2 hbx z2 hl1, kept2 hbx z3 hl1⟩
        have hkc : (k : Int) ≤ (c : Int) := by omega
        have hkc2 : k ≤ c := by omega
        have hkn2 : (k : Int) ≤ (n : Int) := by omega
        have htk : ((k : Int)).toNat = k := by omega
        have hbw2s := hbw2.size
        have HBW2 := Lib.hid hbw2
        clear HK HP HBW hbw1 hbw2 hbel
        go_region_held3 (fun w' => w'.cell? ⟨w.heap.size, 0, none⟩ = some (.int .i64 f) ∧ w'.cell? ⟨w.heap.size, 1, none⟩ = some (.int .i64 t) ∧ w'.cell? ⟨w.heap.size, 2, none⟩ = some (.int .i64 d) ∧ w'.cell? ⟨w.heap.size, 3, none⟩ = some (.string s))
          (first | with_reducible exact HS0 | with_reducible exact HS1 | with_reducible exact ⟨kept2 hbL0 z0 hl1, kept2 hbL0 z1 hl1, kept2 hbL0 z2 hl1, kept2 hbL0 z3 hl1⟩ | with_reducible exact ⟨kept2 (hbL0.alloc hbL0.size _) z0 hl1, kept2 (hbL0.alloc hbL0.size _) z1 hl1, kept2 (hbL0.alloc hbL0.size _) z2 hl1, kept2 (hbL0.alloc hbL0.size _) z3 hl1⟩ | with_reducible exact ⟨kept2 hbA z0 hl1, kept2 hbA z1 hl1, kept2 hbA z2 hl1, kept2 hbA z3 hl1⟩ | with_reducible exact ⟨kept2 hbC z0 hl1, kept2 hbC z1 hl1, kept2 hbC z2 hl1, kept2 hbC z3 hl1⟩ | fail)
          (first
            | (go_at_call 84; (with_reducible refine (HL.out _ ((Below.refl W1.heap.size W1).drew)).mono ?_); rintro e w5 ⟨A2, d2, rfl, ho2, hbL⟩; have hbL0 : Below W1.heap.size W1 w5 := below_d0 hbL; have ho3 := ho2)
            | (go_at_call 84; (with_reducible refine (HL.out _ hbx.drew).mono ?_); rintro e w5 ⟨A2, d2, rfl, ho2, hbL⟩; have hbL0 : Below W1.heap.size W1 w5 := Below.trans hbx (below_d0 hbL |>.mono hbx.size); have hlit := (hbL.block W1.heap.size (by simp)).trans (heap_alloc_new W1 (.cells #[.int .i64 f, .int .i64 t, .int .i64 d, .string s] 66)); have ho3 : OwnL w5 W1.heap.size w5.heap.size A2 d2 (ls.take k) := ho2.wider hbx.size (Nat.le_refl _))
            | (refine step_app (by rfl) _ _ _ (by rfl) W1.heap.size 66 i0 _ 4 40 Try.underlying33 hi0 hz0 hz1 hz2 rfl (by decide) _ k (((ls.take k).map ltCs).flatten) (by rfl) ((OwnL.toR ho3 HT.out).alloc _) (some ⟨w5.heap.size, 0, none⟩) 1 1 [.int .i64 f, .int .i64 t, .int .i64 d, .string s] (by rfl) rfl (fun _ => ⟨_, rfl, World.news_of_block (cs := #[.int .i64 f, .int .i64 t, .int .i64 d, .string s]) (t := 66) (fr := (0, 0)) (heap_alloc_new w5 _)⟩) (by simp [Value.oneCell']) (by unfold maxLen; omega) (by omega) (by have := hbL0.size; simp; omega) ?_; intro v6 w6 hown6 hgr6 hat6; have hbA : Below W1.heap.size W1 w6 := (hbL0.alloc hbL0.size _).grown hgr6 (by have := hbL0.size; simp; omega) (fun q hq => ((OwnL.toR ho3 HT.out).lt q hq).1))
            | (refine step_app (by rfl) _ _ _ (by rfl) W1.heap.size 66 i0 _ 4 40 Try.underlying33 hi0 hz0 hz1 hz2 rfl (by decide) _ k (((ls.take k).map ltCs).flatten) (by rfl) (OwnL.toR ho3 HT.out) (some ⟨W1.heap.size, 0, none⟩) 1 1 [.int .i64 f, .int .i64 t, .int .i64 d, .string s] (by rfl) rfl (fun _ => ⟨_, rfl, World.news_of_block (cs := #[.int .i64 f, .int .i64 t, .int .i64 d, .string s]) (t := 66) (fr := (0, 0)) hlit⟩) (by simp [Value.oneCell']) (by unfold maxLen; omega) (by omega) hbL0.size ?_; intro v6 w6 hown6 hgr6 hat6; have hbA : Below W1.heap.size W1 w6 := hbL0.grown hgr6 hbL0.size (fun q hq => ((OwnL.toR ho3 HT.out).lt q hq).1))
            | (refine step_app (by rfl) _ _ _ (by rfl) W1.heap.size 66 i0 _ 4 40 Try.underlying33 hi0 hz0 hz1 hz2 rfl (by decide) v6 (k + 1) _ (by rfl) hown6 (some ⟨b, off + k * 4, none⟩) (n - k) (c - k) (((ls.drop k).map ltCs).flatten) (by rfl) HF.out (HSRC.out _ hbA) HONE.out (by unfold maxLen; omega) (by omega) hbA.size ?_; intro v7 w7 hown7 hgr7 hat7; have hbC : Below W1.heap.size W1 w7 := hbA.grown hgr7 hbA.size (fun q hq => (hown6.lt q hq).1))
            | fail)
        all_goals
          have HBA := Lib.hid (HBW2.out.trans (hbC.mono hbw2s))
          have HRES := Lib.hid (HW.out _ _ hown7)
          clear hown6 hgr6 hat6 hown7 hgr7 hat7 hbA hbC
          obtain ⟨A3, d3, rfl, ho3⟩ := HRES.out
          have HO3 := Lib.hid (ho3.wider (lo' := w.heap.size) hbw2s (Nat.le_refl _))
          clear ho3
          go_wp2
          go_ret
          exact ⟨_, _, rfl, HO3.out, HBA.out⟩
    · have hkn : n = k := by omega
      have HK := Lib.hid (show dueK ls d = k from dueK_eq (by omega) HP.out (fun h => by omega))
      subst hkn
      have hkf : decide ((n : Int) < (n : Int)) = false := by simp
      clear hlt
      rcases Option.eq_none_or_eq_some A with hA | ⟨ad, hA⟩
      · subst hA
        go_wp2_with fail
        go_quiet (fail)
        go_wp2_with fail
        obtain ⟨W1, hW1⟩ : ∃ W1, W1 = wr.drewN nq := ⟨_, rfl⟩
        have hbw1 : Below W0.heap.size W0 W1 := by rw [hW1]; first | exact HBW.out | exact below_drewN HBW.out _
        have z0 : W1.cell? ⟨w.heap.size, 0, none⟩ = some (.int .i64 f) := by rw [hW1]; exact y0
        have z1 : W1.cell? ⟨w.heap.size, 1, none⟩ = some (.int .i64 t) := by rw [hW1]; exact y1
        have z2 : W1.cell? ⟨w.heap.size, 2, none⟩ = some (.int .i64 d) := by rw [hW1]; exact y2
        have z3 : W1.cell? ⟨w.heap.size, 3, none⟩ = some (.string s) := by rw [hW1]; exact y3
        rw [← hW1]
        clear hW1 y0 y1 y2 y3
        have hbw2 := HB0.out.trans (hbw1.mono HB0.out.size)
        have hl1 : w.heap.size < W1.heap.size := Nat.lt_of_lt_of_le hlt0 hbw1.size
        have HL := Lib.hid (fun W (hW : Below W1.heap.size W1 W) => l7OwnL_any none n c (ls.take n) B W (by rw [List.length_take]; omega) ((HLS.out.head n).below ((hbw2.trans (hW.mono hbw2.size)).mono hB)) (Nat.le_trans hB (hbw2.trans (hW.mono hbw2.size)).size) (by omega))
        have HT := Lib.hid (show (ls.take n).length = n by rw [List.length_take]; omega)
        have HF := Lib.hid (flat_len4 (ls.drop n) 0 (by rw [List.length_drop]; omega))
        have HONE := Lib.hid (ltCs_one (ls.drop n))
        have HW := Lib.hid (show ∀ v' w', w'.ownsRow W1.heap.size 66 4 v' (n + 1 + 0) ((((ls.take n).map ltCs).flatten ++ [.int .i64 f, .int .i64 t, .int .i64 d, .string s]) ++ ((ls.drop n).map ltCs).flatten) → ∃ A c, v' = .slice A (n + 1) c ∧ OwnL w' W1.heap.size w'.heap.size A c (insL ls (f, t, d, s)) from fun v' w' ho => by
          have e : insL ls (f, t, d, s) = ls.take n ++ (f, t, d, s) :: ls.drop n := by unfold insL; simp only; rw [HK.out]
          have hlen : (insL ls (f, t, d, s)).length = n + 1 + 0 := by rw [insL_len]; omega
          obtain ⟨A, c, hv, ho2⟩ := ownL_of (us := insL ls (f, t, d, s)) ho (by rw [e, flat_split]; simp [ltCs]) hlen
          rw [show n + 1 + 0 = n + 1 from rfl] at hv
          exact ⟨A, c, hv, ho2⟩)
        have hbel := Below.refl W1.heap.size W1
        have HS0 : W1.drew.cell? ⟨w.heap.size, 0, none⟩ = some (.int .i64 f) ∧ W1.drew.cell? ⟨w.heap.size, 1, none⟩ = some (.int .i64 t) ∧ W1.drew.cell? ⟨w.heap.size, 2, none⟩ = some (.int .i64 d) ∧ W1.drew.cell? ⟨w.heap.size, 3, none⟩ = some (.string s) := ⟨z0, z1, z2, z3⟩
        have hbx : Below W1.heap.size W1 (W1.alloc (.cells #[.int .i64 f, .int .i64 t, .int .i64 d, .string s] 66)) := (Below.refl _ _).alloc (Nat.le_refl _) _
        have HS1 : (W1.alloc (.cells #[.int .i64 f, .int .i64 t, .int .i64 d, .string s] 66)).drew.cell? ⟨w.heap.size, 0, none⟩ = some (.int .i64 f) ∧ (W1.alloc (.cells #[.int .i64 f, .int .i64 t, .int .i64 d, .string s] 66)).drew.cell? ⟨w.heap.size, 1, none⟩ = some (.int .i64 t) ∧ (W1.alloc (.cells #[.int .i64 f, .int .i64 t, .int .i64 d, .string s] 66)).drew.cell? ⟨w.heap.size, 2, none⟩ = some (.int .i64 d) ∧ (W1.alloc (.cells #[.int .i64 f, .int .i64 t, .int .i64 d, .string s] 66)).drew.cell? ⟨w.heap.size, 3, none⟩ = some (.string s) := ⟨kept2 hbx z0 hl1, kept2 hbx z1 hl1, kept2 hbx z2 hl1, kept2 hbx z3 hl1⟩
        have hkc : (n : Int) ≤ (c : Int) := by omega
        have hkc2 : n ≤ c := by omega
        have hkn2 : (n : Int) ≤ (n : Int) := by omega
        have htk : ((n : Int)).toNat = n := by omega
        have hbw2s := hbw2.size
        have HBW2 := Lib.hid hbw2
        clear HK HP HBW hbw1 hbw2 hbel
        go_region_held3 (fun w' => w'.cell? ⟨w.heap.size, 0, none⟩ = some (.int .i64 f) ∧ w'.cell? ⟨w.heap.size, 1, none⟩ = some (.int .i64 t) ∧ w'.cell? ⟨w.heap.size, 2, none⟩ = some (.int .i64 d) ∧ w'.cell? ⟨w.heap.size, 3, none⟩ = some (.string s))
          (first | with_reducible exact HS0 | with_reducible exact HS1 | with_reducible exact ⟨kept2 hbL0 z0 hl1, kept2 hbL0 z1 hl1, kept2 hbL0 z2 hl1, kept2 hbL0 z3 hl1⟩ | with_reducible exact ⟨kept2 (hbL0.alloc hbL0.size _) z0 hl1, kept2 (hbL0.alloc hbL0.size _) z1 hl1, kept2 (hbL0.alloc hbL0.size _) z2 hl1, kept2 (hbL0.alloc hbL0.size _) z3 hl1⟩ | with_reducible exact ⟨kept2 hbA z0 hl1, kept2 hbA z1 hl1, kept2 hbA z2 hl1, kept2 hbA z3 hl1⟩ | with_reducible exact ⟨kept2 hbC z0 hl1, kept2 hbC z1 hl1, kept2 hbC z2 hl1, kept2 hbC z3 hl1⟩ | fail)
          (first
            | (go_at_call 84; (with_reducible refine (HL.out _ ((Below.refl W1.heap.size W1).drew)).mono ?_); rintro e w5 ⟨A2, d2, rfl, ho2, hbL⟩; have hbL0 : Below W1.heap.size W1 w5 := below_d0 hbL; have ho3 := ho2)
            | (go_at_call 84; (with_reducible refine (HL.out _ hbx.drew).mono ?_); rintro e w5 ⟨A2, d2, rfl, ho2, hbL⟩; have hbL0 : Below W1.heap.size W1 w5 := Below.trans hbx (below_d0 hbL |>.mono hbx.size); have hlit := (hbL.block W1.heap.size (by simp)).trans (heap_alloc_new W1 (.cells #[.int .i64 f, .int .i64 t, .int .i64 d, .string s] 66)); have ho3 : OwnL w5 W1.heap.size w5.heap.size A2 d2 (ls.take n) := ho2.wider hbx.size (Nat.le_refl _))
            | (refine step_app (by rfl) _ _ _ (by rfl) W1.heap.size 66 i0 _ 4 40 Try.underlying33 hi0 hz0 hz1 hz2 rfl (by decide) _ n (((ls.take n).map ltCs).flatten) (by rfl) ((OwnL.toR ho3 HT.out).alloc _) (some ⟨w5.heap.size, 0, none⟩) 1 1 [.int .i64 f, .int .i64 t, .int .i64 d, .string s] (by rfl) rfl (fun _ => ⟨_, rfl, World.news_of_block (cs := #[.int .i64 f, .int .i64 t, .int .i64 d, .string s]) (t := 66) (fr := (0, 0)) (heap_alloc_new w5 _)⟩) (by simp [Value.oneCell']) (by unfold maxLen; omega) (by omega) (by have := hbL0.size; simp; omega) ?_; intro v6 w6 hown6 hgr6 hat6; have hbA : Below W1.heap.size W1 w6 := (hbL0.alloc hbL0.size _).grown hgr6 (by have := hbL0.size; simp; omega) (fun q hq => ((OwnL.toR ho3 HT.out).lt q hq).1))
            | (refine step_app (by rfl) _ _ _ (by rfl) W1.heap.size 66 i0 _ 4 40 Try.underlying33 hi0 hz0 hz1 hz2 rfl (by decide) _ n (((ls.take n).map ltCs).flatten) (by rfl) (OwnL.toR ho3 HT.out) (some ⟨W1.heap.size, 0, none⟩) 1 1 [.int .i64 f, .int .i64 t, .int .i64 d, .string s] (by rfl) rfl (fun _ => ⟨_, rfl, World.news_of_block (cs := #[.int .i64 f, .int .i64 t, .int .i64 d, .string s]) (t := 66) (fr := (0, 0)) hlit⟩) (by simp [Value.oneCell']) (by unfold maxLen; omega) (by omega) hbL0.size ?_; intro v6 w6 hown6 hgr6 hat6; have hbA : Below W1.heap.size W1 w6 := hbL0.grown hgr6 hbL0.size (fun q hq => ((OwnL.toR ho3 HT.out).lt q hq).1))
            | (refine step_app (by rfl) _ _ _ (by rfl) W1.heap.size 66 i0 _ 4 40 Try.underlying33 hi0 hz0 hz1 hz2 rfl (by decide) v6 (n + 1) _ (by rfl) hown6 none 0 (c - n) (((ls.drop n).map ltCs).flatten) (by rfl) HF.out (fun h0 => by omega) HONE.out (by unfold maxLen; omega) (by omega) hbA.size ?_; intro v7 w7 hown7 hgr7 hat7; have hbC : Below W1.heap.size W1 w7 := hbA.grown hgr7 hbA.size (fun q hq => (hown6.lt q hq).1))
            | fail)
        all_goals
          have HBA := Lib.hid (HBW2.out.trans (hbC.mono hbw2s))
          have HRES := Lib.hid (HW.out _ _ hown7)
          clear hown6 hgr6 hat6 hown7 hgr7 hat7 hbA hbC
          obtain ⟨A3, d3, rfl, ho3⟩ := HRES.out
          have HO3 := Lib.hid (ho3.wider (lo' := w.heap.size) hbw2s (Nat.le_refl _))
          clear ho3
          go_wp2
          go_ret
          exact ⟨_, _, rfl, HO3.out, HBA.out⟩
      · subst hA
        by_cases hck : n = c
        · subst hck
          go_wp2_with fail
          go_quiet (fail)
          go_wp2_with fail
          obtain ⟨W1, hW1⟩ : ∃ W1, W1 = wr.drewN nq := ⟨_, rfl⟩
          have hbw1 : Below W0.heap.size W0 W1 := by rw [hW1]; first | exact HBW.out | exact below_drewN HBW.out _
          have z0 : W1.cell? ⟨w.heap.size, 0, none⟩ = some (.int .i64 f) := by rw [hW1]; exact y0
          have z1 : W1.cell? ⟨w.heap.size, 1, none⟩ = some (.int .i64 t) := by rw [hW1]; exact y1
          have z2 : W1.cell? ⟨w.heap.size, 2, none⟩ = some (.int .i64 d) := by rw [hW1]; exact y2
          have z3 : W1.cell? ⟨w.heap.size, 3, none⟩ = some (.string s) := by rw [hW1]; exact y3
          rw [← hW1]
          clear hW1 y0 y1 y2 y3
          have hbw2 := HB0.out.trans (hbw1.mono HB0.out.size)
          have hl1 : w.heap.size < W1.heap.size := Nat.lt_of_lt_of_le hlt0 hbw1.size
          have HL := Lib.hid (fun W (hW : Below W1.heap.size W1 W) => l7OwnL_any (some ad) n n (ls.take n) B W (by rw [List.length_take]; omega) ((HLS.out.head n).below ((hbw2.trans (hW.mono hbw2.size)).mono hB)) (Nat.le_trans hB (hbw2.trans (hW.mono hbw2.size)).size) (by omega))
          have HT := Lib.hid (show (ls.take n).length = n by rw [List.length_take]; omega)
          have HF := Lib.hid (flat_len4 (ls.drop n) 0 (by rw [List.length_drop]; omega))
          have HONE := Lib.hid (ltCs_one (ls.drop n))
          have HW := Lib.hid (show ∀ v' w', w'.ownsRow W1.heap.size 66 4 v' (n + 1 + 0) ((((ls.take n).map ltCs).flatten ++ [.int .i64 f, .int .i64 t, .int .i64 d, .string s]) ++ ((ls.drop n).map ltCs).flatten) → ∃ A c, v' = .slice A (n + 1) c ∧ OwnL w' W1.heap.size w'.heap.size A c (insL ls (f, t, d, s)) from fun v' w' ho => by
            have e : insL ls (f, t, d, s) = ls.take n ++ (f, t, d, s) :: ls.drop n := by unfold insL; simp only; rw [HK.out]
            have hlen : (insL ls (f, t, d, s)).length = n + 1 + 0 := by rw [insL_len]; omega
            obtain ⟨A, c, hv, ho2⟩ := ownL_of (us := insL ls (f, t, d, s)) ho (by rw [e, flat_split]; simp [ltCs]) hlen
            rw [show n + 1 + 0 = n + 1 from rfl] at hv
            exact ⟨A, c, hv, ho2⟩)
          have hbel := Below.refl W1.heap.size W1
          have HS0 : W1.drew.cell? ⟨w.heap.size, 0, none⟩ = some (.int .i64 f) ∧ W1.drew.cell? ⟨w.heap.size, 1, none⟩ = some (.int .i64 t) ∧ W1.drew.cell? ⟨w.heap.size, 2, none⟩ = some (.int .i64 d) ∧ W1.drew.cell? ⟨w.heap.size, 3, none⟩ = some (.string s) := ⟨z0, z1, z2, z3⟩
          have hbx : Below W1.heap.size W1 (W1.alloc (.cells #[.int .i64 f, .int .i64 t, .int .i64 d, .string s] 66)) := (Below.refl _ _).alloc (Nat.le_refl _) _
          have HS1 : (W1.alloc (.cells #[.int .i64 f, .int .i64 t, .int .i64 d, .string s] 66)).drew.cell? ⟨w.heap.size, 0, none⟩ = some (.int .i64 f) ∧ (W1.alloc (.cells #[.int .i64 f, .int .i64 t, .int .i64 d, .string s] 66)).drew.cell? ⟨w.heap.size, 1, none⟩ = some (.int .i64 t) ∧ (W1.alloc (.cells #[.int .i64 f, .int .i64 t, .int .i64 d, .string s] 66)).drew.cell? ⟨w.heap.size, 2, none⟩ = some (.int .i64 d) ∧ (W1.alloc (.cells #[.int .i64 f, .int .i64 t, .int .i64 d, .string s] 66)).drew.cell? ⟨w.heap.size, 3, none⟩ = some (.string s) := ⟨kept2 hbx z0 hl1, kept2 hbx z1 hl1, kept2 hbx z2 hl1, kept2 hbx z3 hl1⟩
          have hkc : (n : Int) ≤ (n : Int) := by omega
          have hkc2 : n ≤ n := by omega
          have hkn2 : (n : Int) ≤ (n : Int) := by omega
          have htk : ((n : Int)).toNat = n := by omega
          have hbw2s := hbw2.size
          have HBW2 := Lib.hid hbw2
          clear HK HP HBW hbw1 hbw2 hbel
          go_region_held3 (fun w' => w'.cell? ⟨w.heap.size, 0, none⟩ = some (.int .i64 f) ∧ w'.cell? ⟨w.heap.size, 1, none⟩ = some (.int .i64 t) ∧ w'.cell? ⟨w.heap.size, 2, none⟩ = some (.int .i64 d) ∧ w'.cell? ⟨w.heap.size, 3, none⟩ = some (.string s))
            (first | with_reducible exact HS0 | with_reducible exact HS1 | with_reducible exact ⟨kept2 hbL0 z0 hl1, kept2 hbL0 z1 hl1, kept2 hbL0 z2 hl1, kept2 hbL0 z3 hl1⟩ | with_reducible exact ⟨kept2 (hbL0.alloc hbL0.size _) z0 hl1, kept2 (hbL0.alloc hbL0.size _) z1 hl1, kept2 (hbL0.alloc hbL0.size _) z2 hl1, kept2 (hbL0.alloc hbL0.size _) z3 hl1⟩ | with_reducible exact ⟨kept2 hbA z0 hl1, kept2 hbA z1 hl1, kept2 hbA z2 hl1, kept2 hbA z3 hl1⟩ | with_reducible exact ⟨kept2 hbC z0 hl1, kept2 hbC z1 hl1, kept2 hbC z2 hl1, kept2 hbC z3 hl1⟩ | fail)
            (first
              | (go_at_call 84; (with_reducible refine (HL.out _ ((Below.refl W1.heap.size W1).drew)).mono ?_); rintro e w5 ⟨A2, d2, rfl, ho2, hbL⟩; have hbL0 : Below W1.heap.size W1 w5 := below_d0 hbL; have ho3 := ho2)
              | (go_at_call 84; (with_reducible refine (HL.out _ hbx.drew).mono ?_); rintro e w5 ⟨A2, d2, rfl, ho2, hbL⟩; have hbL0 : Below W1.heap.size W1 w5 := Below.trans hbx (below_d0 hbL |>.mono hbx.size); have hlit := (hbL.block W1.heap.size (by simp)).trans (heap_alloc_new W1 (.cells #[.int .i64 f, .int .i64 t, .int .i64 d, .string s] 66)); have ho3 : OwnL w5 W1.heap.size w5.heap.size A2 d2 (ls.take n) := ho2.wider hbx.size (Nat.le_refl _))
              | (refine step_app (by rfl) _ _ _ (by rfl) W1.heap.size 66 i0 _ 4 40 Try.underlying33 hi0 hz0 hz1 hz2 rfl (by decide) _ n (((ls.take n).map ltCs).flatten) (by rfl) ((OwnL.toR ho3 HT.out).alloc _) (some ⟨w5.heap.size, 0, none⟩) 1 1 [.int .i64 f, .int .i64 t, .int .i64 d, .string s] (by rfl) rfl (fun _ => ⟨_, rfl, World.news_of_block (cs := #[.int .i64 f, .int .i64 t, .int .i64 d, .string s]) (t := 66) (fr := (0, 0)) (heap_alloc_new w5 _)⟩) (by simp [Value.oneCell']) (by unfold maxLen; omega) (by omega) (by have := hbL0.size; simp; omega) ?_; intro v6 w6 hown6 hgr6 hat6; have hbA : Below W1.heap.size W1 w6 := (hbL0.alloc hbL0.size _).grown hgr6 (by have := hbL0.size; simp; omega) (fun q hq => ((OwnL.toR ho3 HT.out).lt q hq).1))
              | (refine step_app (by rfl) _ _ _ (by rfl) W1.heap.size 66 i0 _ 4 40 Try.underlying33 hi0 hz0 hz1 hz2 rfl (by decide) _ n (((ls.take n).map ltCs).flatten) (by rfl) (OwnL.toR ho3 HT.out) (some ⟨W1.heap.size, 0, none⟩) 1 1 [.int .i64 f, .int .i64 t, .int .i64 d, .string s] (by rfl) rfl (fun _ => ⟨_, rfl, World.news_of_block (cs := #[.int .i64 f, .int .i64 t, .int .i64 d, .string s]) (t := 66) (fr := (0, 0)) hlit⟩) (by simp [Value.oneCell']) (by unfold maxLen; omega) (by omega) hbL0.size ?_; intro v6 w6 hown6 hgr6 hat6; have hbA : Below W1.heap.size W1 w6 := hbL0.grown hgr6 hbL0.size (fun q hq => ((OwnL.toR ho3 HT.out).lt q hq).1))
              | (refine step_app (by rfl) _ _ _ (by rfl) W1.heap.size 66 i0 _ 4 40 Try.underlying33 hi0 hz0 hz1 hz2 rfl (by decide) v6 (n + 1) _ (by rfl) hown6 (some ad) 0 0 (((ls.drop n).map ltCs).flatten) (by rfl) HF.out (fun h0 => by omega) HONE.out (by unfold maxLen; omega) (by omega) hbA.size ?_; intro v7 w7 hown7 hgr7 hat7; have hbC : Below W1.heap.size W1 w7 := hbA.grown hgr7 hbA.size (fun q hq => (hown6.lt q hq).1))
              | fail)
          all_goals
            have HBA := Lib.hid (HBW2.out.trans (hbC.mono hbw2s))
            have HRES := Lib.hid (HW.out _ _ hown7)
            clear hown6 hgr6 hat6 hown7 hgr7 hat7 hbA hbC
            obtain ⟨A3, d3, rfl, ho3⟩ := HRES.out
            have HO3 := Lib.hid (ho3.wider (lo' := w.heap.size) hbw2s (Nat.le_refl _))
            clear ho3
            go_wp2
            go_ret
            exact ⟨_, _, rfl, HO3.out, HBA.out⟩
        · have hck2 : ¬ (c = n) := fun e => hck e.symm
          go_wp2_with fail
          go_quiet (fail)
          go_wp2_with fail
          obtain ⟨W1, hW1⟩ : ∃ W1, W1 = wr.drewN nq := ⟨_, rfl⟩
          have hbw1 : Below W0.heap.size W0 W1 := by rw [hW1]; first | exact HBW.out | exact below_drewN HBW.out _
          have z0 : W1.cell? ⟨w.heap.size, 0, none⟩ = some (.int .i64 f) := by rw [hW1]; exact y0
          have z1 : W1.cell? ⟨w.heap.size, 1, none⟩ = some (.int .i64 t) := by rw [hW1]; exact y1
          have z2 : W1.cell? ⟨w.heap.size, 2, none⟩ = some (.int .i64 d) := by rw [hW1]; exact y2
          have z3 : W1.cell? ⟨w.heap.size, 3, none⟩ = some (.string s) := by rw [hW1]; exact y3
          rw [← hW1]
          clear hW1 y0 y1 y2 y3
          have hbw2 := HB0.out.trans (hbw1.mono HB0.out.size)
          have hl1 : w.heap.size < W1.heap.size := Nat.lt_of_lt_of_le hlt0 hbw1.size
          have HL := Lib.hid (fun W (hW : Below W1.heap.size W1 W) => l7OwnL_any (some ad) n c (ls.take n) B W (by rw [List.length_take]; omega) ((HLS.out.head n).below ((hbw2.trans (hW.mono hbw2.size)).mono hB)) (Nat.le_trans hB (hbw2.trans (hW.mono hbw2.size)).size) (by omega))
          have HT := Lib.hid (show (ls.take n).length = n by rw [List.length_take]; omega)
          have HF := Lib.hid (flat_len4 (ls.drop n) 0 (by rw [List.length_drop]; omega))
          have HONE := Lib.hid (ltCs_one (ls.drop n))
          have HW := Lib.hid (show ∀ v' w', w'.ownsRow W1.heap.size 66 4 v' (n + 1 + 0) ((((ls.take n).map ltCs).flatten ++ [.int .i64 f, .int .i64 t, .int .i64 d, .string s]) ++ ((ls.drop n).map ltCs).flatten) → ∃ A c, v' = .slice A (n + 1) c ∧ OwnL w' W1.heap.size w'.heap.size A c (insL ls (f, t, d, s)) from fun v' w' ho => by
            have e : insL ls (f, t, d, s) = ls.take n ++ (f, t, d, s) :: ls.drop n := by unfold insL; simp only; rw [HK.out]
            have hlen : (insL ls (f, t, d, s)).length = n + 1 + 0 := by rw [insL_len]; omega
            obtain ⟨A, c, hv, ho2⟩ := ownL_of (us := insL ls (f, t, d, s)) ho (by rw [e, flat_split]; simp [ltCs]) hlen
            rw [show n + 1 + 0 = n + 1 from rfl] at hv
            exact ⟨A, c, hv, ho2⟩)
          have hbel := Below.refl W1.heap.size W1
          have HS0 : W1.drew.cell? ⟨w.heap.size, 0, none⟩ = some (.int .i64 f) ∧ W1.drew.cell? ⟨w.heap.size, 1, none⟩ = some (.int .i64 t) ∧ W1.drew.cell? ⟨w.heap.size, 2, none⟩ = some (.int .i64 d) ∧ W1.drew.cell? ⟨w.heap.size, 3, none⟩ = some (.string s) := ⟨z0, z1, z2, z3⟩
          have hbx : Below W1.heap.size W1 (W1.alloc (.cells #[.int .i64 f, .int .i64 t, .int .i64 d, .string s] 66)) := (Below.refl _ _).alloc (Nat.le_refl _) _
          have HS1 : (W1.alloc (.cells #[.int .i64 f, .int .i64 t, .int .i64 d, .string s] 66)).drew.cell? ⟨w.heap.size, 0, none⟩ = some (.int .i64 f) ∧ (W1.alloc (.cells #[.int .i64 f, .int .i64 t, .int .i64 d, .string s] 66)).drew.cell? ⟨w.heap.size, 1, none⟩ = some (.int .i64 t) ∧ (W1.alloc (.cells #[.int .i64 f, .int .i64 t, .int .i64 d, .string s] 66)).drew.cell? ⟨w.heap.size, 2, none⟩ = some (.int .i64 d) ∧ (W1.alloc (.cells #[.int .i64 f, .int .i64 t, .int .i64 d, .string s] 66)).drew.cell? ⟨w.heap.size, 3, none⟩ = some (.string s) := ⟨kept2 hbx z0 hl1, kept2 hbx z1 hl1, kept2 hbx z2 hl1, kept2 hbx z3 hl1⟩
          have hkc : (n : Int) ≤ (c : Int) := by omega
          have hkc2 : n ≤ c := by omega
          have hkn2 : (n : Int) ≤ (n : Int) := by omega
          have htk : ((n : Int)).toNat = n := by omega
          have hbw2s := hbw2.size
          have HBW2 := Lib.hid hbw2
          clear HK HP HBW hbw1 hbw2 hbel
          go_region_held3 (fun w' => w'.cell? ⟨w.heap.size, 0, none⟩ = some (.int .i64 f) ∧ w'.cell? ⟨w.heap.size, 1, none⟩ = some (.int .i64 t) ∧ w'.cell? ⟨w.heap.size, 2, none⟩ = some (.int .i64 d) ∧ w'.cell? ⟨w.heap.size, 3, none⟩ = some (.string s))
            (first | with_reducible exact HS0 | with_reducible exact HS1 | with_reducible exact ⟨kept2 hbL0 z0 hl1, kept2 hbL0 z1 hl1, kept2 hbL0 z2 hl1, kept2 hbL0 z3 hl1⟩ | with_reducible exact ⟨kept2 (hbL0.alloc hbL0.size _) z0 hl1, kept2 (hbL0.alloc hbL0.size _) z1 hl1, kept2 (hbL0.alloc hbL0.size _) z2 hl1, kept2 (hbL0.alloc hbL0.size _) z3 hl1⟩ | with_reducible exact ⟨kept2 hbA z0 hl1, kept2 hbA z1 hl1, kept2 hbA z2 hl1, kept2 hbA z3 hl1⟩ | with_reducible exact ⟨kept2 hbC z0 hl1, kept2 hbC z1 hl1, kept2 hbC z2 hl1, kept2 hbC z3 hl1⟩ | fail)
            (first
              | (go_at_call 84; (with_reducible refine (HL.out _ ((Below.refl W1.heap.size W1).drew)).mono ?_); rintro e w5 ⟨A2, d2, rfl, ho2, hbL⟩; have hbL0 : Below W1.heap.size W1 w5 := below_d0 hbL; have ho3 := ho2)
              | (go_at_call 84; (with_reducible refine (HL.out _ hbx.drew).mono ?_); rintro e w5 ⟨A2, d2, rfl, ho2, hbL⟩; have hbL0 : Below W1.heap.size W1 w5 := Below.trans hbx (below_d0 hbL |>.mono hbx.size); have hlit := (hbL.block W1.heap.size (by simp)).trans (heap_alloc_new W1 (.cells #[.int .i64 f, .int .i64 t, .int .i64 d, .string s] 66)); have ho3 : OwnL w5 W1.heap.size w5.heap.size A2 d2 (ls.take n) := ho2.wider hbx.size (Nat.le_refl _))
              | (refine step_app (by rfl) _ _ _ (by rfl) W1.heap.size 66 i0 _ 4 40 Try.underlying33 hi0 hz0 hz1 hz2 rfl (by decide) _ n (((ls.take n).map ltCs).flatten) (by rfl) ((OwnL.toR ho3 HT.out).alloc _) (some ⟨w5.heap.size, 0, none⟩) 1 1 [.int .i64 f, .int .i64 t, .int .i64 d, .string s] (by rfl) rfl (fun _ => ⟨_, rfl, World.news_of_block (cs := #[.int .i64 f, .int .i64 t, .int .i64 d, .string s]) (t := 66) (fr := (0, 0)) (heap_alloc_new w5 _)⟩) (by simp [Value.oneCell']) (by unfold maxLen; omega) (by omega) (by have := hbL0.size; simp; omega) ?_; intro v6 w6 hown6 hgr6 hat6; have hbA : Below W1.heap.size W1 w6 := (hbL0.alloc hbL0.size _).grown hgr6 (by have := hbL0.size; simp; omega) (fun q hq => ((OwnL.toR ho3 HT.out).lt q hq).1))
              | (refine step_app (by rfl) _ _ _ (by rfl) W1.heap.size 66 i0 _ 4 40 Try.underlying33 hi0 hz0 hz1 hz2 rfl (by decide) _ n (((ls.take n).map ltCs).flatten) (by rfl) (OwnL.toR ho3 HT.out) (some ⟨W1.heap.size, 0, none⟩) 1 1 [.int .i64 f, .int .i64 t, .int .i64 d, .string s] (by rfl) rfl (fun _ => ⟨_, rfl, World.news_of_block (cs := #[.int .i64 f, .int .i64 t, .int .i64 d, .string s]) (t := 66) (fr := (0, 0)) hlit⟩) (by simp [Value.oneCell']) (by unfold maxLen; omega) (by omega) hbL0.size ?_; intro v6 w6 hown6 hgr6 hat6; have hbA : Below W1.heap.size W1 w6 := hbL0.grown hgr6 hbL0.size (fun q hq => ((OwnL.toR ho3 HT.out).lt q hq).1))
              | (refine step_app (by rfl) _ _ _ (by rfl) W1.heap.size 66 i0 _ 4 40 Try.underlying33 hi0 hz0 hz1 hz2 rfl (by decide) v6 (n + 1) _ (by rfl) hown6 (some (ad.add (n * 4))) 0 (c - n) (((ls.drop n).map ltCs).flatten) (by rfl) HF.out (fun h0 => by omega) HONE.out (by unfold maxLen; omega) (by omega) hbA.size ?_; intro v7 w7 hown7 hgr7 hat7; have hbC : Below W1.heap.size W1 w7 := hbA.grown hgr7 hbA.size (fun q hq => (hown6.lt q hq).1))
              | fail)
          all_goals
            have HBA := Lib.hid (HBW2.out.trans (hbC.mono hbw2s))
            have HRES := Lib.hid (HW.out _ _ hown7)
            clear hown6 hgr6 hat6 hown7 hgr7 hat7 hbA hbC
            obtain ⟨A3, d3, rfl, ho3⟩ := HRES.out
            have HO3 := Lib.hid (ho3.wider (lo' := w.heap.size) hbw2s (Nat.le_refl _))
            clear ho3
            go_wp2
            go_ret
            exact ⟨_, _, rfl, HO3.out, HBA.out⟩
end Go.Proofs.Ytojplmjoipjabaa.Nt
