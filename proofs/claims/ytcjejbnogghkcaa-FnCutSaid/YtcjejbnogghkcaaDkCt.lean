/-
  The walk of the law FnCut.
-/
import Derived.Test.YtcjejbnogghkcaaDkMd
namespace Go.Proofs.Ytcjejbnogghkcaa.Dk
open Go.RowKit C1
set_option linter.unusedVariables false
set_option linter.unusedSimpArgs false

set_option maxRecDepth 100000 in
set_option maxHeartbeats 8000000 in
theorem cut_walk (w : World) (A : Option Addr) (n c : Nat) (l : List UInt8) (hn : l.length = n) (h : BytesAt w A l) (hm : n ≤ maxLen) :
    Calls Try.prog 6 #[.slice A n c] w fun e w' => e = .returned (.bool true) ∧ Below w.heap.size w w' := by
  by_cases hb : n ≤ 65536
  · have HV := Lib.hid (fun W => vBig_no A n c W hb)
    have HDRAW := Lib.hid (drawCut_any A n c l w hn h (by omega))
    clear hn h hm
    go_enter Try.func6, Try.ntmps6
    go_wp2_with fail
    refine (HV.out _).mono ?_
    rintro e w1 ⟨rfl, rfl⟩
    go_wp2_with fail
    refine HDRAW.out.mono ?_
    rintro e w1 ⟨k, r, m, rfl, hkr, hm0, hm4, hb1⟩
    have HB1 := Lib.hid hb1
    have hd := heap_alloc_new w1 (.cells #[.string k, .string r] 30)
    have HIM := Lib.hid (fun W => implCut_any k r m W (by omega) (by omega) (by have h1 : IntKind.i64.min = -9223372036854775808 := rfl; have h2 : IntKind.i64.max = 9223372036854775807 := rfl; simp [Lit.wf]; omega))
    have HSM := Lib.hid (fun W => specCut_any k r m W (by omega) (by omega))
    have HON := Lib.hid (fun W => specOn_any k r W (by omega) (by omega))
    by_cases hyes : goodB k r = true ∧ r.size = 0 ∧ 0 ≤ m ∧ m ≤ ((frs k k.size 0).1.length : Int)
    · obtain ⟨hg, h0, hm0, hmL⟩ := hyes
      obtain rfl := nil_of h0
      obtain ⟨j9, rfl⟩ := nat_of hm0
      have hjL9 : j9 ≤ (frs k k.size 0).1.length := by omega
      rw [cutA_yes hg h0 hjL9, cut_bytes k j9 hjL9] at HIM HSM
      rw [onA_yes hg, add_nil] at HON
      have HSZ := Lib.hid (fun i (hi : i ≤ j9) => catF_size k j9 i hi hjL9)
      have HS7 := Lib.hid (frs_sizes (b := k) k.size 0 (Nat.zero_le _))
      have hk5 := goodB_le hg
      have hLl : (frs k k.size 0).1.length ≤ 60000 := by have := (frs_end (b := k) k.size 0 (Nat.zero_le _)).2.2.1; omega
      simp only [DAns] at HIM HSM
      unfold OEnd at HON
      simp only at HON
      obtain ⟨L, hL⟩ : ∃ L, L = (frs k k.size 0).1 := ⟨_, rfl⟩
      obtain ⟨z, hz⟩ : ∃ z, z = (frs k k.size 0).2 := ⟨_, rfl⟩
      simp only [← hL, ← hz] at HON HIM HSM HSZ HS7 hLl hjL9
      have hcat : catF L j9 = ⟨(frmL (L.take j9)).toArray⟩ := rfl
      rw [← hcat] at HIM HSM
      obtain ⟨K, hK⟩ : ∃ K, K = catF L j9 := ⟨_, rfl⟩
      rw [← hK] at HIM HSM
      have HEQ := Lib.hid (fun W => eq_disk W K ⟨#[]⟩)
      have HKK := Lib.hid hK
      clear hg hL hz hcat hK hm0 hmL h0
      have HB2 := Lib.hid (hb1.alloc hb1.size (.cells #[.string k, .string ⟨#[]⟩] 30))
      clear hb1
      have c0 := cell_of_row _ _ 0 _ _ (0, 0) hd
      have c1 := cell_of_row _ _ 1 _ _ (0, 0) hd
      simp only [List.getElem?_toArray, List.getElem?_cons_zero, List.getElem?_cons_succ] at c0 c1
      go_upto_region 4 with fail
      obtain ⟨gd, hgd⟩ : ∃ gd, gd = w1.heap.size := ⟨_, rfl⟩
      have hlt1 : gd < (w1.alloc (.cells #[.string k, .string ⟨#[]⟩] 30)).heap.size := by rw [World.size_alloc]; omega
      rw [← hgd] at hd c0 c1 ⊢
      generalize w1.alloc (.cells #[.string k, .string ⟨#[]⟩] 30) = W1 at *
      clear hgd HB1 HDRAW HV
      have HDa := Lib.hid hd
      clear hd
      go_wp2_with fail
      refine (HIM.out _).mono ?_
      rintro e w2 ⟨rfl, hb2⟩
      have hd2 := (hb2.block gd hlt1).trans HDa.out
      have HD2 := Lib.hid hd2
      have HBb := Lib.hid (HB2.out.trans (hb2.mono HB2.out.size))
      have hlt2 := blk_lt hd2
      clear c0 c1 hb2
      have c0 := cell_of_row _ _ 0 _ _ (0, 0) hd2
      have c1 := cell_of_row _ _ 1 _ _ (0, 0) hd2
      simp only [List.getElem?_toArray, List.getElem?_cons_zero, List.getElem?_cons_succ] at c0 c1
      clear hd2
      go_wp2_with fail
      refine (HSM.out _).mono ?_
      rintro e w3 ⟨rfl, hb3⟩
      have hlt2e : w2.heap.size < (w2.alloc (.cells #[.string K, .string ⟨#[]⟩] 30)).heap.size := by rw [World.size_alloc]; omega
      have hd3 := (hb3.block gd (by omega)).trans ((Below.heap_alloc _ _ _ hlt2).trans HD2.out)
      have he3 := (hb3.block w2.heap.size hlt2e).trans (heap_alloc_new w2 _)
      obtain ⟨ge, hge⟩ : ∃ ge, ge = w2.heap.size := ⟨_, rfl⟩
      rw [← hge] at he3 ⊢
      have HD3 := Lib.hid hd3
      have HE3 := Lib.hid he3
      have HB3 := Lib.hid ((HBb.out.alloc HBb.out.size (.cells #[.string K, .string ⟨#[]⟩] 30)).trans (hb3.mono (HBb.out.alloc HBb.out.size (.cells #[.string K, .string ⟨#[]⟩] 30)).size))
      have hld3 := blk_lt hd3
      have hle3 := blk_lt he3
      clear c0 c1 hb3 hlt2 hlt2e hge hlt1
      have c0 := cell_of_row _ _ 0 _ _ (0, 0) hd3
      have c1 := cell_of_row _ _ 1 _ _ (0, 0) hd3
      simp only [List.getElem?_toArray, List.getElem?_cons_zero, List.getElem?_cons_succ] at c0 c1
      have x0 := cell_of_row _ _ 0 _ _ (0, 0) he3
      have x1 := cell_of_row _ _ 1 _ _ (0, 0) he3
      simp only [List.getElem?_toArray, List.getElem?_cons_zero, List.getElem?_cons_succ] at x0 x1
      clear hd3 he3
      have heq := HEQ.out
      go_wp2_with fail
      refine (HON.out _).mono ?_
      rintro e w4 ⟨A8, c8, rfl, ho8, hb4⟩
      have he4 := (hb4.block ge (by rw [World.size_alloc]; omega)).trans ((Below.heap_alloc _ _ _ hle3).trans HE3.out)
      have HB4 := Lib.hid ((HB3.out.alloc HB3.out.size (.cells #[.string K, .string ⟨#[]⟩] 30)).trans (hb4.mono (HB3.out.alloc HB3.out.size (.cells #[.string K, .string ⟨#[]⟩] 30)).size))
      have HE4 := Lib.hid he4
      have HO4 := Lib.hid ho8
      have hle4 := blk_lt he4
      clear hb4 he4 ho8 c0 c1 x0 x1 heq hld3 hle3
      have hgn := heap_alloc_new w4 (.cells #[.string ⟨#[]⟩, .string ⟨#[]⟩] 30)
      go_wp2_with fail
      obtain ⟨W0, hW0⟩ : ∃ W0, W0 = w4.alloc (.cells #[.string ⟨#[]⟩, .string ⟨#[]⟩] 30) := ⟨_, rfl⟩
      have hb40 : Below w4.heap.size w4 W0 := by rw [hW0]; exact below1 w4 _
      rw [← hW0] at hgn ⊢
      obtain ⟨gf, hgf⟩ : ∃ gf, gf = w4.heap.size := ⟨_, rfl⟩
      rw [← hgf] at hgn hb40 hle4 ⊢
      have HGF := Lib.hid hgf
      have HGN := Lib.hid hgn
      have HB40 := Lib.hid hb40
      clear hW0 hgf hgn hb40
      go_loopw [13] (fun i wr => ∃ j : Nat, j ≤ j9 ∧ i = .int .i64 (j : Int) ∧ wr.heap[gf]? = some (.cells #[.string ⟨#[]⟩, .string (catF L j)] 30 (0, 0)) ∧ Below gf W0 wr) (fun i _ => j9 - (intOf i).toNat)
      case atStart => exact ⟨0, Nat.zero_le _, rfl, by rw [catF_zero]; exact HGN.out, Below.refl _ _⟩
      case round =>
        obtain ⟨j, hj, rfl, hkf, hB⟩ := hrel
        have hwr : Below gf w4 wr := HB40.out.trans hB
        have hrw := row_below HO4.out (by rw [← HGF.out]; exact hwr)
        by_cases hlt : j < j9
        · have hlt' : (j : Int) < (j9 : Int) := by omega
          have hjL : j < L.length := by omega
          obtain ⟨ga, rfl, ga1, ga2, d0⟩ := strs_cell hrw j hjL
          obtain ⟨s, hs⟩ : ∃ s, s = L[j] := ⟨_, rfl⟩
          rw [← hs] at d0
          have hs7 : s.size ≤ 700 := by rw [hs]; exact HS7.out _ (List.getElem_mem hjL)
          have hst := catF_step L j hjL
          rw [← hs] at hst
          have hsj := HSZ.out j (by omega)
          have hsj1 := HSZ.out (j + 1) (by omega)
          have hez : (⟨#[]⟩ : ByteArray).size = 0 := rfl
          have HWR := Lib.hid (fun W => implWrite_any ⟨#[]⟩ (catF L j) s W (by decide) (by omega) (by unfold maxLen; omega))
          rw [writeA_yes (goodB_yes (by omega)) hs7 (goodB_yes (by rw [← hst]; omega)), ← hst] at HWR
          simp only [DAns] at HWR
          obtain ⟨t, ht⟩ : ∃ t, t = catF L (j + 1) := ⟨_, rfl⟩
          obtain ⟨u, hu⟩ : ∃ u, u = catF L j := ⟨_, rfl⟩
          rw [← ht, ← hu] at HWR
          rw [← hu] at hkf
          have HTD := Lib.hid ht
          have HKF := Lib.hid hkf
          have HBB := Lib.hid hB
          have lgr := blk_lt hkf
          have hj0 : (0 : Int) ≤ (j : Int) := by omega
          have hjLi : (j : Int) < (L.length : Int) := by omega
          have c0 := cell_of_row _ _ 0 _ _ (0, 0) hkf
          have c1 := cell_of_row _ _ 1 _ _ (0, 0) hkf
          simp only [List.getElem?_toArray, List.getElem?_cons_zero, List.getElem?_cons_succ] at c0 c1
          clear hst hs ht hu hkf hB hwr hrw hsj hsj1 hs7 hez
          go_wp2_with fail
          go_region_law (go_simp; go_at_call 22; (with_reducible refine (HWR.out _).mono ?_); rintro e w5 ⟨rfl, hb5⟩; have hb6 : Below wr.heap.size wr w5 := ⟨hb5.os, hb5.tape, hb5.output, hb5.size, hb5.block⟩; have m0 := (hb6.block gf lgr).trans HKF.out; have x0 : w5.cell? ⟨gf, 0, none⟩ = some (.string ⟨#[]⟩) := cell_of_row _ _ 0 _ _ (0, 0) m0; have x1 : w5.cell? ⟨gf, 1, none⟩ = some (.string u) := cell_of_row _ _ 1 _ _ (0, 0) m0; have xf := free_row m0; have HM := Lib.hid m0; have HB6 := Lib.hid (HBB.out.trans (hb6.mono (Nat.le_of_lt lgr))); clear m0 hb6)
          all_goals (
            go_wp2
            go_roundw
            case rel => exact ⟨j + 1, by omega, by go_num, by rw [← HTD.out]; exact set_two HM.out, (HB6.out.setCell (p := ⟨gf, 0, none⟩) (Nat.le_refl _) _).setCell (p := ⟨gf, 1, none⟩) (Nat.le_refl _) _⟩
            case measure => simp [intOf]; omega)
        · have hjn : j = j9 := by omega
          subst hjn
          have hsj := HSZ.out j (Nat.le_refl _)
          rw [← HKK.out] at hkf hsj
          have HSY := Lib.hid (fun W => implSync_any ⟨#[]⟩ K W (by decide) (by omega))
          rw [show syncA ⟨#[]⟩ K = (K, ⟨#[]⟩, true) from by unfold syncA; rw [if_pos (goodB_yes (by rw [show (⟨#[]⟩ : ByteArray).size = 0 from rfl]; omega)), nil_add]] at HSY
          simp only [DAns] at HSY
          have c0 := cell_of_row _ _ 0 _ _ (0, 0) hkf
          have c1 := cell_of_row _ _ 1 _ _ (0, 0) hkf
          simp only [List.getElem?_toArray, List.getElem?_cons_zero, List.getElem?_cons_succ] at c0 c1
          have hle := (hwr.block ge hle4).trans HE4.out
          have HLE := Lib.hid hle
          have hlw := blk_lt hle
          have HW := Lib.hid (HB4.out.trans (hwr.mono (by rw [HGF.out]; exact HB4.out.size)))
          clear hkf hB hwr hrw hle hlt hsj
          go_wp2_with fail
          refine (HSY.out _).mono ?_
          rintro e w6 ⟨rfl, hb6⟩
          have he6 := (hb6.block ge hlw).trans HLE.out
          have hle6 := blk_lt he6
          clear c0 c1
          have x0 := cell_of_row _ _ 0 _ _ (0, 0) he6
          have x1 := cell_of_row _ _ 1 _ _ (0, 0) he6
          simp only [List.getElem?_toArray, List.getElem?_cons_zero, List.getElem?_cons_succ] at x0 x1
          have HB6 := Lib.hid (HW.out.trans (hb6.mono HW.out.size))
          have heq := HEQ.out
          clear he6 hb6
          go_wp2
          go_ret
          exact ⟨rfl, HB6.out.alloc HB6.out.size _⟩
    · rw [cutA_no hyes] at HIM HSM
      simp only [DAns, noD] at HIM HSM
      have HEQ := Lib.hid (fun W => eq_disk W ⟨#[]⟩ ⟨#[]⟩)
      clear hyes HON
      have HB2 := Lib.hid (hb1.alloc hb1.size (.cells #[.string k, .string r] 30))
      clear hb1
      have c0 := cell_of_row _ _ 0 _ _ (0, 0) hd
      have c1 := cell_of_row _ _ 1 _ _ (0, 0) hd
      simp only [List.getElem?_toArray, List.getElem?_cons_zero, List.getElem?_cons_succ] at c0 c1
      go_upto_region 4 with fail
      obtain ⟨gd, hgd⟩ : ∃ gd, gd = w1.heap.size := ⟨_, rfl⟩
      have hlt1 : gd < (w1.alloc (.cells #[.string k, .string r] 30)).heap.size := by rw [World.size_alloc]; omega
      rw [← hgd] at hd c0 c1 ⊢
      generalize w1.alloc (.cells #[.string k, .string r] 30) = W1 at *
      clear hgd HB1 HDRAW HV
      have HDa := Lib.hid hd
      clear hd
      go_wp2_with fail
      refine (HIM.out _).mono ?_
      rintro e w2 ⟨rfl, hb2⟩
      have hd2 := (hb2.block gd hlt1).trans HDa.out
      have HD2 := Lib.hid hd2
      have HBb := Lib.hid (HB2.out.trans (hb2.mono HB2.out.size))
      have hlt2 := blk_lt hd2
      clear c0 c1 hb2
      have c0 := cell_of_row _ _ 0 _ _ (0, 0) hd2
      have c1 := cell_of_row _ _ 1 _ _ (0, 0) hd2
      simp only [List.getElem?_toArray, List.getElem?_cons_zero, List.getElem?_cons_succ] at c0 c1
      clear hd2
      go_wp2_with fail
      refine (HSM.out _).mono ?_
      rintro e w3 ⟨rfl, hb3⟩
      have hlt2e : w2.heap.size < (w2.alloc (.cells #[.string ⟨#[]⟩, .string ⟨#[]⟩] 30)).heap.size := by rw [World.size_alloc]; omega
      have hd3 := (hb3.block gd (by omega)).trans ((Below.heap_alloc _ _ _ hlt2).trans HD2.out)
      have he3 := (hb3.block w2.heap.size hlt2e).trans (heap_alloc_new w2 _)
      obtain ⟨ge, hge⟩ : ∃ ge, ge = w2.heap.size := ⟨_, rfl⟩
      rw [← hge] at he3 ⊢
      have HD3 := Lib.hid hd3
      have HE3 := Lib.hid he3
      have HB3 := Lib.hid ((HBb.out.alloc HBb.out.size (.cells #[.string ⟨#[]⟩, .string ⟨#[]⟩] 30)).trans (hb3.mono (HBb.out.alloc HBb.out.size (.cells #[.string ⟨#[]⟩, .string ⟨#[]⟩] 30)).size))
      have hld3 := blk_lt hd3
      have hle3 := blk_lt he3
      clear c0 c1 hb3 hlt2 hlt2e hge hlt1
      have c0 := cell_of_row _ _ 0 _ _ (0, 0) hd3
      have c1 := cell_of_row _ _ 1 _ _ (0, 0) hd3
      simp only [List.getElem?_toArray, List.getElem?_cons_zero, List.getElem?_cons_succ] at c0 c1
      have x0 := cell_of_row _ _ 0 _ _ (0, 0) he3
      have x1 := cell_of_row _ _ 1 _ _ (0, 0) he3
      simp only [List.getElem?_toArray, List.getElem?_cons_zero, List.getElem?_cons_succ] at x0 x1
      clear hd3 he3
      have heq := HEQ.out
      go_wp2
      go_ret
      exact ⟨rfl, HB3.out.alloc HB3.out.size _⟩
  · have HV := Lib.hid (fun W => vBig_yes A n c W (by omega))
    clear hn h hm
    go_enter Try.func6, Try.ntmps6
    go_wp2_with fail
    refine (HV.out _).mono ?_
    rintro e w1 ⟨rfl, rfl⟩
    go_wp2
    go_ret
    exact ⟨rfl, Below.refl _ _⟩
end Go.Proofs.Ytcjejbnogghkcaa.Dk
