/-
  NewNet of both sides, for chapter 8 (as in NtF4 and NtG2, without what those rest on).
-/
import Derived.Test.YtojplmjoipjabaaNtF0
namespace Go.Proofs.Ytojplmjoipjabaa.Po
open Go.RowKit Nt
set_option linter.unusedVariables false
set_option linter.unusedSimpArgs false

def newA (is : List Int) (far : Int) : Int × List Int × Int × List (Int × Int × Int × ByteArray) × Bool := ifA 0 is far []
theorem newA_no {is : List Int} {far : Int} (h : netB 0 is far [] = false) : newA is far = noA := by unfold newA ifA; rw [h]; rfl
theorem newA_yes {is : List Int} {far : Int} (h : netB 0 is far [] = true) : newA is far = (0, is, far, [], true) := by unfold newA ifA; rw [h]; rfl
set_option maxRecDepth 100000 in
set_option maxHeartbeats 4000000 in
theorem implNewNet_any (A : Option Addr) (n c : Nat) (is : List Int) (far : Int) (B : Nat) (w : World) (hn : is.length = n) (h : IntsB w B A is) (hB : B ≤ w.heap.size) (hl : n ≤ 1048576) :
    Calls Try.prog 30 #[.slice A n c, .int .i64 far] w (NAPost (newA is far) w) := by
  have hb0 := below2 w (.cells #[.int .i64 0, .slice none 0 0, .int .i64 0, .slice none 0 0] 35) (.cells #[.int .i64 0, .slice A n c, .int .i64 far, .slice none 0 0] 35)
  have hr0 : ((w.alloc (.cells #[.int .i64 0, .slice none 0 0, .int .i64 0, .slice none 0 0] 35)).alloc (.cells #[.int .i64 0, .slice A n c, .int .i64 far, .slice none 0 0] 35)).heap[w.heap.size]? = some (.cells #[.int .i64 0, .slice none 0 0, .int .i64 0, .slice none 0 0] 35 (0, 0)) := ((below1 (w.alloc (.cells #[.int .i64 0, .slice none 0 0, .int .i64 0, .slice none 0 0] 35)) (.cells #[.int .i64 0, .slice A n c, .int .i64 far, .slice none 0 0] 35)).block w.heap.size (by simp)).trans (heap_alloc_new w (.cells #[.int .i64 0, .slice none 0 0, .int .i64 0, .slice none 0 0] 35))
  have hk0 := alloc_snd w (.cells #[.int .i64 0, .slice none 0 0, .int .i64 0, .slice none 0 0] 35) (.cells #[.int .i64 0, .slice A n c, .int .i64 far, .slice none 0 0] 35)
  have hm0 : LSmall [] := ⟨by simp, by simp⟩
  have HT := Lib.hid (fun W (hW : Below w.heap.size w W) => implGoodNet_any 0 far A none n c 0 0 is [] B W hn rfl (h.below (hW.mono hB)) (.inl rfl) (Nat.le_trans hB hW.size) hm0)
  have hcn := fun W (hW : Below w.heap.size w W) => copyNet_any 0 far A none n c 0 0 is [] B W hn rfl (h.below (hW.mono hB)) (.inl rfl) (Nat.le_trans hB hW.size) (by omega) (by omega)
  unfold NetV at hcn
  simp only [hn, List.length_nil] at hcn
  have HCN := Lib.hid hcn
  clear hcn
  cases g1 : netB 0 is far [] with
  | false =>
    rw [g1] at HT
    rw [newA_no g1]
    clear h hn g1 HCN
    go_enter Try.func30, Try.ntmps30
    go_wp2_with fail
    refine (HT.out _ hb0).mono ?_
    rintro e w1 ⟨rfl, ha1⟩
    have hr1 := (ha1.block w.heap.size (lt_blk hr0)).trans hr0
    have HBN := Lib.hid (hb0.trans (ha1.mono hb0.size))
    have r10 := cell_of_row _ _ 0 _ 35 (0, 0) hr1
    have f10 := free_blk hr1 0
    have r11 := cell_of_row _ _ 1 _ 35 (0, 0) hr1
    have f11 := free_blk hr1 1
    have r12 := cell_of_row _ _ 2 _ 35 (0, 0) hr1
    have f12 := free_blk hr1 2
    have r13 := cell_of_row _ _ 3 _ 35 (0, 0) hr1
    have f13 := free_blk hr1 3
    clear ha1 hr1 hr0 hk0 hb0
    go_wp2
    exact bodyPost_ret (v := .tuple #[.agg #[.int .i64 0, .slice none 0 0, .int .i64 0, .slice none 0 0], .bool false]) (by simp [results, Try.results30, go_sem, r10, f10, r11, f11, r12, f12, r13, f13]) rfl (noA_post (bel_put4 HBN.out (by omega)))
  | true =>
    rw [g1] at HT
    rw [newA_yes g1]
    have HN := Lib.hid hn
    clear h hn g1
    go_enter Try.func30, Try.ntmps30
    go_wp2_with fail
    refine (HT.out _ hb0).mono ?_
    rintro e w1 ⟨rfl, ha1⟩
    have hr1 := (ha1.block w.heap.size (lt_blk hr0)).trans hr0
    have hk1 := (ha1.block (w.heap.size + 1) (lt_blk hk0)).trans hk0
    have hb1 := hb0.trans (ha1.mono hb0.size)
    have k10 := cell_of_row _ _ 0 _ 35 (0, 0) hk1
    have k11 := cell_of_row _ _ 1 _ 35 (0, 0) hk1
    have k12 := cell_of_row _ _ 2 _ 35 (0, 0) hk1
    have k13 := cell_of_row _ _ 3 _ 35 (0, 0) hk1
    clear ha1 hr0 hk0 hb0
    go_wp2_with fail
    refine (HCN.out _ hb1).mono ?_
    rintro e w2 ⟨A1, c1, A2, c2, rfl, hoi, hol, ha2⟩
    have hr2 := (ha2.block w.heap.size (lt_blk hr1)).trans hr1
    have hl1 := lt_blk hr1
    have hb2 := hb1.trans (ha2.mono hb1.size)
    have r20 := cell_of_row _ _ 0 _ 35 (0, 0) hr2
    have f20 := free_blk hr2 0
    have r21 := cell_of_row _ _ 1 _ 35 (0, 0) hr2
    have f21 := free_blk hr2 1
    have r22 := cell_of_row _ _ 2 _ 35 (0, 0) hr2
    have f22 := free_blk hr2 2
    have r23 := cell_of_row _ _ 3 _ 35 (0, 0) hr2
    have f23 := free_blk hr2 3
    have HAN := Lib.hid (show NAPost (0, is, far, [], true) w (.returned (.tuple #[.agg #[.int .i64 0, .slice A1 n c1, .int .i64 far, .slice A2 0 c2], .bool true])) ((((w2.setCell ⟨w.heap.size, 0, none⟩ (.int .i64 0)).setCell ⟨w.heap.size, 1, none⟩ (.slice A1 n c1)).setCell ⟨w.heap.size, 2, none⟩ (.int .i64 far)).setCell ⟨w.heap.size, 3, none⟩ (.slice A2 0 c2)) from
      yes_post HN.out rfl ((OwnI.put4 hoi (by omega)).wider (by omega) (by simp [World.setCell])) ((OwnL.put4 hol (by omega)).wider (by omega) (by simp [World.setCell])) (bel_put4 hb2 (Nat.le_refl _)))
    clear ha2 hr1 hk1 hb1 hr2 hoi hol hb2 k10 k11 k12 k13
    go_wp2
    exact bodyPost_ret (v := .tuple #[.agg #[.int .i64 0, .slice A1 n c1, .int .i64 far, .slice A2 0 c2], .bool true]) (by simp [results, Try.results30, go_sem, r20, f20, r21, f21, r22, f22, r23, f23]) rfl HAN.out


set_option maxRecDepth 100000 in
set_option maxHeartbeats 4000000 in
theorem specNewNet_any (A : Option Addr) (n c : Nat) (is : List Int) (far : Int) (B : Nat) (w : World) (hn : is.length = n) (h : IntsB w B A is) (hB : B ≤ w.heap.size) (hl : n ≤ 1048576) :
    Calls Try.prog 31 #[.slice A n c, .int .i64 far] w (NAPost (newA is far) w) := by
  have hb0 := below1 w (.cells #[.int .i64 0, .slice none 0 0, .int .i64 0, .slice none 0 0] 35)
  have hr0 := heap_alloc_new w (.cells #[.int .i64 0, .slice none 0 0, .int .i64 0, .slice none 0 0] 35)
  have hm0 : LSmall [] := ⟨by simp, by simp⟩
  have HOW := Lib.hid (fun W (hW : Below w.heap.size w W) => l1Own_any A n c is B W hn (h.below (hW.mono hB)) (Nat.le_trans hB hW.size) (by omega))
  have HG := Lib.hid (fun (W : World) (A1 : Option Addr) (c1 lo hi : Nat) (ho : OwnI W lo hi A1 c1 is) (hh : hi ≤ W.heap.size) => l7Good_any 0 far A1 none n c1 0 0 is [] W.heap.size W hn rfl (ho.ints.mono hh) (.inl rfl) (Nat.le_refl _) hm0 hl)
  have HN := Lib.hid hn
  rcases g1 : netB 0 is far [] with _ | _
  · rw [g1] at HG
    rw [newA_no g1]
    clear h hn g1
    go_enter Try.func31, Try.ntmps31
    go_wp2_with fail
    refine (HOW.out _ hb0).mono ?_
    rintro e w1 ⟨A1, c1, rfl, hoi, ha1⟩
    have hr1 := (ha1.block w.heap.size (lt_blk hr0)).trans hr0
    have hb1 := hb0.trans (ha1.mono hb0.size)
    have hz1 := ha1.size
    have hl1 := lt_blk hr1
    have haV := below1 w1 (.cells #[.int .i64 0, .slice A1 n c1, .int .i64 far, .slice none 0 0] 35)
    have hrV := (haV.block w.heap.size hl1).trans hr1
    have hoV := hoi.since haV (Nat.le_refl _)
    have HGV := Lib.hid (HG.out (w1.alloc (.cells #[.int .i64 0, .slice A1 n c1, .int .i64 far, .slice none 0 0] 35)) A1 c1 _ _ hoV haV.size)
    clear ha1 hr0
    go_wp2_with fail
    refine HGV.out.mono ?_
    rintro e w2 ⟨rfl, ha2⟩
    have hn2 := (ha2.block w1.heap.size (by simp)).trans (heap_alloc_new w1 (.cells #[.int .i64 0, .slice A1 n c1, .int .i64 far, .slice none 0 0] 35))
    have hr2 := (ha2.block w.heap.size (by simp; omega)).trans hrV
    have hb2 := hb1.trans ((haV.trans (ha2.mono haV.size)).mono hb1.size)
    have hoi2 := hoi.since (haV.trans (ha2.mono haV.size)) (Nat.le_refl _)
    have hz2 := ha2.size
    have n20 := cell_of_row _ _ 0 _ 35 (0, 0) hn2
    have n21 := cell_of_row _ _ 1 _ 35 (0, 0) hn2
    have n22 := cell_of_row _ _ 2 _ 35 (0, 0) hn2
    have n23 := cell_of_row _ _ 3 _ 35 (0, 0) hn2
    have hl2 := lt_blk hr2
    have hlz : (w.alloc (.cells #[.int .i64 0, .slice none 0 0, .int .i64 0, .slice none 0 0] 35)).heap.size = w.heap.size + 1 := by simp
    have hl3 := (haV.trans (ha2.mono haV.size)).size
    have r20 := cell_of_row _ _ 0 _ 35 (0, 0) hr2
    have f20 := free_blk hr2 0
    have r21 := cell_of_row _ _ 1 _ 35 (0, 0) hr2
    have f21 := free_blk hr2 1
    have r22 := cell_of_row _ _ 2 _ 35 (0, 0) hr2
    have f22 := free_blk hr2 2
    have r23 := cell_of_row _ _ 3 _ 35 (0, 0) hr2
    have f23 := free_blk hr2 3
    have HBN := Lib.hid hb2
    clear ha2 hr1 hb1 hrV haV hoV hoi hoi2 hb2 hr2 hn2 hlz hb0
    go_wp2
    exact bodyPost_ret (v := .tuple #[.agg #[.int .i64 0, .slice none 0 0, .int .i64 0, .slice none 0 0], .bool false]) (by simp [results, Try.results31, go_sem, r20, f20, r21, f21, r22, f22, r23, f23]) rfl (noA_post (bel_put4 HBN.out (Nat.le_refl _)))
  · rw [g1] at HG
    rw [newA_yes g1]
    clear h hn g1
    go_enter Try.func31, Try.ntmps31
    go_wp2_with fail
    refine (HOW.out _ hb0).mono ?_
    rintro e w1 ⟨A1, c1, rfl, hoi, ha1⟩
    have hr1 := (ha1.block w.heap.size (lt_blk hr0)).trans hr0
    have hb1 := hb0.trans (ha1.mono hb0.size)
    have hz1 := ha1.size
    have hl1 := lt_blk hr1
    have haV := below1 w1 (.cells #[.int .i64 0, .slice A1 n c1, .int .i64 far, .slice none 0 0] 35)
    have hrV := (haV.block w.heap.size hl1).trans hr1
    have hoV := hoi.since haV (Nat.le_refl _)
    have HGV := Lib.hid (HG.out (w1.alloc (.cells #[.int .i64 0, .slice A1 n c1, .int .i64 far, .slice none 0 0] 35)) A1 c1 _ _ hoV haV.size)
    clear ha1 hr0
    go_wp2_with fail
    refine HGV.out.mono ?_
    rintro e w2 ⟨rfl, ha2⟩
    have hn2 := (ha2.block w1.heap.size (by simp)).trans (heap_alloc_new w1 (.cells #[.int .i64 0, .slice A1 n c1, .int .i64 far, .slice none 0 0] 35))
    have hr2 := (ha2.block w.heap.size (by simp; omega)).trans hrV
    have hb2 := hb1.trans ((haV.trans (ha2.mono haV.size)).mono hb1.size)
    have hoi2 := hoi.since (haV.trans (ha2.mono haV.size)) (Nat.le_refl _)
    have hz2 := ha2.size
    have n20 := cell_of_row _ _ 0 _ 35 (0, 0) hn2
    have n21 := cell_of_row _ _ 1 _ 35 (0, 0) hn2
    have n22 := cell_of_row _ _ 2 _ 35 (0, 0) hn2
    have n23 := cell_of_row _ _ 3 _ 35 (0, 0) hn2
    have hl2 := lt_blk hr2
    have hlz : (w.alloc (.cells #[.int .i64 0, .slice none 0 0, .int .i64 0, .slice none 0 0] 35)).heap.size = w.heap.size + 1 := by simp
    have hl3 := (haV.trans (ha2.mono haV.size)).size
    have r20 := cell_of_row _ _ 0 _ 35 (0, 0) hr2
    have f20 := free_blk hr2 0
    have r21 := cell_of_row _ _ 1 _ 35 (0, 0) hr2
    have f21 := free_blk hr2 1
    have r22 := cell_of_row _ _ 2 _ 35 (0, 0) hr2
    have f22 := free_blk hr2 2
    have r23 := cell_of_row _ _ 3 _ 35 (0, 0) hr2
    have f23 := free_blk hr2 3
    have HAN := Lib.hid (show NAPost (0, is, far, [], true) w (.returned (.tuple #[.agg #[.int .i64 0, .slice A1 n c1, .int .i64 far, .slice none 0 0], .bool true])) ((((w2.setCell ⟨w.heap.size, 0, none⟩ (.int .i64 0)).setCell ⟨w.heap.size, 1, none⟩ (.slice A1 n c1)).setCell ⟨w.heap.size, 2, none⟩ (.int .i64 far)).setCell ⟨w.heap.size, 3, none⟩ (.slice none 0 0)) from
      yes_post HN.out rfl ((OwnI.put4 hoi2 (by omega)).wider (by omega) (by simp [World.setCell]; omega)) (.inl ⟨rfl, rfl, rfl⟩) (bel_put4 hb2 (Nat.le_refl _)))
    clear ha2 hr1 hb1 hrV haV hoV hoi hoi2 hb2 hr2 hn2 hlz hb0
    go_wp2
    exact bodyPost_ret (v := .tuple #[.agg #[.int .i64 0, .slice A1 n c1, .int .i64 far, .slice none 0 0], .bool true]) (by simp [results, Try.results31, go_sem, r20, f20, r21, f21, r22, f22, r23, f23]) rfl HAN.out
end Go.Proofs.Ytojplmjoipjabaa.Po
