/-
  The contract of takeLetters: letters taken out of a net's queue through a pointer.
-/
import Derived.Test.YtojplmjoipjabaaNtTake
import Derived.Deep.RegionLaw
namespace Go.Proofs.Ytojplmjoipjabaa.Nt
open Go Go.RowKit
set_option linter.unusedVariables false
set_option linter.unusedSimpArgs false

set_option maxRecDepth 100000 in
set_option maxHeartbeats 4000000 in
theorem takeLetters_some (g gr n c lo hi i j : Nat) (v0 v1 v2 : Value) (ls : List (Int × Int × Int × ByteArray)) (w : World) (hn : ls.length = n) (hg : w.heap[g]? = some (.cells #[v0, v1, v2, .slice (some ⟨gr, 0, none⟩) n c] 35 (0, 0))) (ho : OwnL w lo hi (some ⟨gr, 0, none⟩) c ls) (hhi : hi ≤ g) (hij : i ≤ j) (hjn : j ≤ n) (hl : n ≤ 1048576) :
    Calls Try.prog 82 #[.pointer (some ⟨g, 3, none⟩), .int .i64 (i : Int), .int .i64 (j : Int)] w (TakePost g (some ⟨gr, 0, none⟩) c lo hi v0 v1 v2 (ls.take i ++ ls.drop j) ((ls.drop i).take (j - i)) w) := by
  have hgw := lt_blk hg
  have hroom := ho.room
  rw [hn] at hroom
  obtain ⟨hnc, hcm⟩ := hroom
  have hc63 : (c : Int) ≤ 9223372036854775807 := by unfold maxLen at hcm; omega
  have hgr := (Own.block ho _ rfl).2.1
  simp only at hgr
  have q3 : w.cell? ⟨g, 3, none⟩ = some (.slice (some ⟨gr, 0, none⟩) n c) := cell_of_row _ _ 3 _ 35 (0, 0) hg
  have hts : ((ls.drop i).take (j - i)).length = j - i := by rw [List.length_take, List.length_drop]; omega
  have hus : (ls.take i ++ ls.drop j).length = i + (n - j) := by simp [hn]; omega
  have hpart : ∀ od, (od = i * 4 ∨ i = j) → LetsB w hi (some ⟨gr, od, none⟩) ((ls.drop i).take (j - i)) := fun od hod => by
    rcases hod with h | h
    · subst h
      have := (ho.lets.part i (by omega)).head (j - i)
      simpa using this
    · rw [show j - i = 0 by omega]; exact .inl (by simp)
  have HCL := Lib.hid (fun od cc (hod : od = i * 4 ∨ i = j) => cloneL_any (some ⟨gr, od, none⟩) (j - i) cc ((ls.drop i).take (j - i)) hi w hts (hpart od hod) (by omega) (by omega))
  have HTW := Lib.hid (fun (w1 : World) (hb : Below w.heap.size w w1) => take_worlds (g := g) (v0 := v0) (v1 := v1) (v2 := v2) (i := i) (j := j) (ho.since hb (by omega)) hn hij hjn ((hb.block g hgw).trans hg))
  have HFIN := Lib.hid (fun (w1 W3 : World) (A2 : Option Addr) (c2 : Nat) (hb : Below w.heap.size w w1) (ht : OwnL w1 w.heap.size w1.heap.size A2 c2 ((ls.drop i).take (j - i))) (h : (W3.heap[g]? = some (.cells #[v0, v1, v2, .slice (some ⟨gr, 0, none⟩) (i + (n - j)) c] 35 (0, 0)) ∧ OwnL W3 lo hi (some ⟨gr, 0, none⟩) c (ls.take i ++ ls.drop j) ∧ TwoA g (some ⟨gr, 0, none⟩) w1 W3 ∧ W3.heap.size = w1.heap.size)) => show TakePost g (some ⟨gr, 0, none⟩) c lo hi v0 v1 v2 (ls.take i ++ ls.drop j) ((ls.drop i).take (j - i)) w (.returned (.slice A2 (j - i) c2)) W3 from by
    obtain ⟨k1, k2, k3, k4⟩ := h
    refine ⟨A2, c2, by rw [hts], ?_, by rw [hus]; exact k1, k2, ⟨k3.1.trans hb.os, k3.2.1.trans hb.tape, k3.2.2.1.trans hb.output, Nat.le_trans hb.size k3.2.2.2.1, fun b hbw hbg hbA => (k3.2.2.2.2 b (Nat.lt_of_lt_of_le hbw hb.size) hbg hbA).trans (hb.block b hbw)⟩⟩
    have hm : Below w.heap.size w1 W3 → True := fun _ => trivial
    rcases ht with ht | ⟨p, cu, hA, h1, h2, h3, h4⟩
    · exact .inl ht
    · rw [k4]
      exact .inr ⟨p, cu, hA, h1, h2, (k3.2.2.2.2 p h2 (by omega) (fun x hx e => by injection hx with hx; subst hx; simp at e; omega)).trans h3, h4⟩)
  have i0 : (0 : Int) ≤ (i : Int) := by omega
  have j0 : (0 : Int) ≤ (j : Int) := by omega
  have ij : (i : Int) ≤ (j : Int) := by omega
  have jn : (j : Int) ≤ (n : Int) := by omega
  have in' : (i : Int) ≤ (n : Int) := by omega
  have jc : (j : Int) ≤ (c : Int) := by omega
  have m0 : (0 : Int) ≤ (i : Int) + ((n - j : Nat) : Int) := by omega
  have m1 : (i : Int) + ((n - j : Nat) : Int) ≤ (n : Int) := by omega
  have m2 : (i : Int) + ((n - j : Nat) : Int) ≤ (c : Int) := by omega
  have mt : ((i : Int) + ((n - j : Nat) : Int)).toNat = i + (n - j) := by omega
  have mw : IntKind.i64.wrap ((i : Int) + ((n - j : Nat) : Int)) = (i : Int) + ((n - j : Nat) : Int) := by rw [IntKind.wrap_i64]; omega
  have HNC := Lib.hid (show n ≤ c ∧ i ≤ j ∧ j ≤ n ∧ (n - (i + (n - j)) = j - i) ∧ (c = i → n = i ∧ i = j) ∧ (c = j → n = j) from ⟨hnc, hij, hjn, by omega, by omega, by omega⟩)
  have nij : n - (i + (n - j)) = j - i := by omega
  have hnn := Lib.hid hn
  clear hpart hts hus ho hn hg hgr
  by_cases k1 : c = i
  · obtain ⟨e1, e2⟩ := HNC.out.2.2.2.2.1 k1
    have a1 : n = c := by omega
    subst a1
    have a2 : n = i := by omega
    subst a2
    have a3 : n = j := by omega
    subst a3
    simp only [Nat.sub_self, Nat.add_zero] at HCL HTW HFIN ⊢
    clear HNC k1 e1 e2 nij mt mw m0 m1 m2 ij jn in' jc
    go_enter Try.func82, Try.ntmps82
    go_wp2_with fail
    refine (HCL.out 0 _ (by first | exact .inr rfl | exact .inr trivial)).mono ?_
    rintro e w1 ⟨A2, c2, rfl, ho2, hb1⟩
    obtain ⟨W2, W3, hcopy, z2, hclear, z3, u3, _, _, hfin⟩ := HTW.out w1 hb1
    have hpost := HFIN.out w1 _ A2 c2 hb1 ho2 hfin
    have HPOST := Lib.hid hpost
    have HCP := Lib.hid hcopy
    have hcl := fun ty cc => hclear ty cc 0 (by first | exact .inr rfl | exact .inr trivial)
    have q3b := (hb1.cell (p := ⟨g, 3, none⟩) hgw).trans q3
    clear hfin hpost hcopy hclear hb1 ho2
    go_wp2_with fail
    go_region_law (refine step_copy_told rfl (.tmp 21) (.tmp 26) 33 33 rfl (.slice (some ⟨gr, 0, none⟩) 0 0) (.slice (some ⟨gr, 0, none⟩) 0 0) (by simp [Act.eval, Act.put]) (by simp [Act.eval, Act.put]) (HCP.out _ _ _ 0 0 (by first | exact .inr rfl | exact .inr trivial) (by omega) (by first | exact .inr rfl | exact .inr trivial)) ?_)
    all_goals
      go_wp2
      go_ret
      exact HPOST.out
  by_cases k2 : c = j
  · have e1 := HNC.out.2.2.2.2.2 k2
    have a1 : n = c := by omega
    subst a1
    have a3 : n = j := by omega
    subst a3
    have hc1 := HNC.out.2.1
    simp only [Nat.sub_self, Nat.add_zero] at HCL HTW HFIN ⊢
    clear HNC k2 e1 nij mt mw m0 m1 m2 jc
    have k4 : ¬ (n = 0) := by omega
    go_enter Try.func82, Try.ntmps82
    go_wp2_with fail
    refine (HCL.out (i * 4) _ (.inl rfl)).mono ?_
    rintro e w1 ⟨A2, c2, rfl, ho2, hb1⟩
    obtain ⟨W2, W3, hcopy, z2, hclear, z3, u3, _, _, hfin⟩ := HTW.out w1 hb1
    have hpost := HFIN.out w1 _ A2 c2 hb1 ho2 hfin
    have HPOST := Lib.hid hpost
    have HCP := Lib.hid hcopy
    have hcl := fun ty cc => hclear ty cc (i * 4) (.inl rfl)
    have q3b := (hb1.cell (p := ⟨g, 3, none⟩) hgw).trans q3
    clear hfin hpost hcopy hclear hb1 ho2
    go_wp2_with fail
    go_region_law (refine step_copy_told rfl (.tmp 21) (.tmp 26) 33 33 rfl (.slice (some ⟨gr, i * 4, none⟩) (n - i) (n - i)) (.slice (some ⟨gr, 0, none⟩) 0 0) (by simp [Act.eval, Act.put]) (by simp [Act.eval, Act.put]) (HCP.out _ _ _ (i * 4) 0 (.inl rfl) (by omega) (by first | exact .inr rfl | exact .inr trivial)) ?_)
    all_goals
      go_wp2
      go_ret
      exact HPOST.out
  by_cases k3 : c = i + (n - j)
  · have h5 := HNC.out.2.1
    have h6 := HNC.out.2.2.1
    have h7 := HNC.out.1
    have a1 : n = c := by omega
    subst a1
    have a3 : i = j := by omega
    subst a3
    have e3 : i + (n - i) = n := by omega
    have e4 : (i : Int) + ((n - i : Nat) : Int) = (n : Int) := by omega
    simp only [Nat.sub_self, e3] at HCL HTW HFIN ⊢
    clear HNC k3 nij mt mw m0 m1 m2 jc h5 h7
    have k4 : ¬ (n = 0) := by omega
    go_enter Try.func82, Try.ntmps82
    go_wp2_with fail
    refine (HCL.out (i * 4) _ (.inl rfl)).mono ?_
    rintro e w1 ⟨A2, c2, rfl, ho2, hb1⟩
    obtain ⟨W2, W3, hcopy, z2, hclear, z3, u3, _, _, hfin⟩ := HTW.out w1 hb1
    have hpost := HFIN.out w1 _ A2 c2 hb1 ho2 hfin
    have HPOST := Lib.hid hpost
    have HCP := Lib.hid hcopy
    have hcl := fun ty cc => hclear ty cc 0 (by first | exact .inr rfl | exact .inr trivial)
    have q3b := (hb1.cell (p := ⟨g, 3, none⟩) hgw).trans q3
    clear hfin hpost hcopy hclear hb1 ho2
    go_wp2_with fail
    go_region_law (refine step_copy_told rfl (.tmp 21) (.tmp 26) 33 33 rfl (.slice (some ⟨gr, i * 4, none⟩) (n - i) (n - i)) (.slice (some ⟨gr, i * 4, none⟩) (n - i) (n - i)) (by simp [Act.eval, Act.put]) (by simp [Act.eval, Act.put]) (HCP.out _ _ _ (i * 4) (i * 4) (.inl rfl) (by omega) (.inl rfl)) ?_)
    all_goals
      go_wp2
      go_ret
      exact HPOST.out
  · have k4 : ¬ (c = 0) := by omega
    go_enter Try.func82, Try.ntmps82
    go_wp2_with fail
    refine (HCL.out (i * 4) _ (.inl rfl)).mono ?_
    rintro e w1 ⟨A2, c2, rfl, ho2, hb1⟩
    obtain ⟨W2, W3, hcopy, z2, hclear, z3, u3, _, _, hfin⟩ := HTW.out w1 hb1
    have hpost := HFIN.out w1 _ A2 c2 hb1 ho2 hfin
    have HPOST := Lib.hid hpost
    have HCP := Lib.hid hcopy
    have hcl := fun ty cc => hclear ty cc ((i + (n - j)) * 4) (.inl rfl)
    have q3b := (hb1.cell (p := ⟨g, 3, none⟩) hgw).trans q3
    clear hfin hpost hcopy hclear hb1 ho2
    go_wp2_with fail
    go_region_law (refine step_copy_told rfl (.tmp 21) (.tmp 26) 33 33 rfl (.slice (some ⟨gr, i * 4, none⟩) (n - i) (c - i)) (.slice (some ⟨gr, j * 4, none⟩) (n - j) (c - j)) (by simp [Act.eval, Act.put]) (by simp [Act.eval, Act.put]) (HCP.out _ _ _ (i * 4) (j * 4) (.inl rfl) (by have := HNC.out; omega) (.inl rfl)) ?_)
    all_goals
      go_wp2
      go_ret
      exact HPOST.out

theorem run_copy_nil (W : World) (ty : TypeId) : (Builtin.copy_ #[33, 33] ty #[.slice none 0 0, .slice none 0 0]).run Try.prog W = .ok (.int .i64 0) W := by
  obtain ⟨i0, hi0, hz0, hz1, hz2⟩ := info_parts infoLet
  simp [Builtin.copy_, run_underlying Try.underlying33, Builtin.lenOf, Builtin.firstCells, sizeOf, typeInfo, hi0, goInt]
set_option maxRecDepth 100000 in
set_option maxHeartbeats 2000000 in
theorem takeLetters_none (g lo hi : Nat) (v0 v1 v2 : Value) (w : World) (hg : w.heap[g]? = some (.cells #[v0, v1, v2, .slice none 0 0] 35 (0, 0))) :
    Calls Try.prog 82 #[.pointer (some ⟨g, 3, none⟩), .int .i64 0, .int .i64 0] w (TakePost g none 0 lo hi v0 v1 v2 [] [] w) := by
  have hgw := lt_blk hg
  have q3 : w.cell? ⟨g, 3, none⟩ = some (.slice none 0 0) := cell_of_row _ _ 3 _ 35 (0, 0) hg
  have HCL := Lib.hid (cloneL_any none 0 0 [] 0 w rfl (.inl rfl) (Nat.zero_le _) (by omega))
  have hcopy := fun W ty => run_copy_nil W ty
  have hclr := fun W ty => run_clear_0 (P := Try.prog) W 33 66 ty Try.underlying33 none 0
  have HG := Lib.hid hg
  clear hg
  go_enter Try.func82, Try.ntmps82
  go_wp2_with fail
  refine HCL.out.mono ?_
  rintro e w1 ⟨A2, c2, rfl, ho2, hb1⟩
  have hg1 := (hb1.block g hgw).trans HG.out
  have q3b : w1.cell? ⟨g, 3, none⟩ = some (.slice none 0 0) := cell_of_row _ _ 3 _ 35 (0, 0) hg1
  have u3b := free_blk hg1 3
  have hg2 : (w1.drew.setCell ⟨g, 3, none⟩ (.slice none 0 0)).heap[g]? = some (.cells #[v0, v1, v2, .slice none 0 0] 35 (0, 0)) := set_blk (w := w1.drew) hg1
  have HPOST := Lib.hid (show TakePost g none 0 lo hi v0 v1 v2 [] [] w (.returned (.slice A2 0 c2)) (w1.drew.setCell ⟨g, 3, none⟩ (.slice none 0 0)) from
    ⟨A2, c2, rfl, by
      have h2 : OwnL (w1.drew.setCell ⟨g, 3, none⟩ (.slice none 0 0)) w.heap.size w1.heap.size A2 c2 [] := OwnL.low (w := w1.drew) ho2 hgw _
      exact h2.wider (Nat.le_refl _) (by simp [World.setCell]), hg2, by
      have := (hg2); exact .inl ⟨rfl, rfl, rfl⟩,
      ⟨hb1.os, hb1.tape, hb1.output, by simpa [World.setCell] using hb1.size, fun b hb hbg _ => (Below.heap_setCell _ _ _ _ hbg).trans (hb1.block b hb)⟩⟩)
  clear hb1 ho2 hg1 hg2
  go_wp2_with fail
  go_region_law (refine step_copy_told rfl (.tmp 21) (.tmp 26) 33 33 rfl (.slice none 0 0) (.slice none 0 0) (by simp [Act.eval, Act.put]) (by simp [Act.eval, Act.put]) (hcopy _ _) ?_)
  all_goals
    go_wp2
    go_ret
    exact HPOST.out

theorem takeLetters_any (g n c lo hi i j : Nat) (A : Option Addr) (v0 v1 v2 : Value) (ls : List (Int × Int × Int × ByteArray)) (w : World) (hn : ls.length = n) (hg : w.heap[g]? = some (.cells #[v0, v1, v2, .slice A n c] 35 (0, 0))) (ho : OwnL w lo hi A c ls) (hhi : hi ≤ g) (hij : i ≤ j) (hjn : j ≤ n) (hl : n ≤ 1048576) :
    Calls Try.prog 82 #[.pointer (some ⟨g, 3, none⟩), .int .i64 (i : Int), .int .i64 (j : Int)] w (TakePost g A c lo hi v0 v1 v2 (ls.take i ++ ls.drop j) ((ls.drop i).take (j - i)) w) := by
  rcases ho with ⟨h1, h2, h3⟩ | ⟨gr, cur, hA, h4⟩
  · rw [List.map_eq_nil_iff] at h1
    subst h1 h2 h3
    simp only [List.length_nil] at hn
    subst hn
    have hj0 : j = 0 := by omega
    have hi0 : i = 0 := by omega
    subst hj0 hi0
    exact takeLetters_none g lo hi v0 v1 v2 w hg
  · subst hA
    exact takeLetters_some g gr n c lo hi i j v0 v1 v2 ls w hn hg (.inr ⟨gr, cur, rfl, h4⟩) hhi hij hjn hl
end Go.Proofs.Ytojplmjoipjabaa.Nt
