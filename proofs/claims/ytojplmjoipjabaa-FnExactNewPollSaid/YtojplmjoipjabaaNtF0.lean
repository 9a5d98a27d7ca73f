/-
  A net as an answer; l7If of the model and onlyGood of the program; l7Has and hasLetter.
-/
import Derived.Test.YtojplmjoipjabaaNtTrip
import Derived.Test.YtojplmjoipjabaaNtOwn2
namespace Go.Proofs.Ytojplmjoipjabaa.Nt
open Go.RowKit
set_option linter.unusedVariables false
set_option linter.unusedSimpArgs false

/-- A net, or none, as an answer: its slices in blocks of the call's own. -/
def NAPost (a : Int × List Int × Int × List (Int × Int × Int × ByteArray) × Bool) (w : World) (e : Ending) (w' : World) : Prop :=
  ∃ A c A' c', e = .returned (.tuple #[.agg #[.int .i64 a.1, .slice A a.2.1.length c, .int .i64 a.2.2.1, .slice A' a.2.2.2.1.length c'], .bool a.2.2.2.2]) ∧ OwnI w' w.heap.size w'.heap.size A c a.2.1 ∧ OwnL w' w.heap.size w'.heap.size A' c' a.2.2.2.1 ∧ Below w.heap.size w w'
theorem noA_post {w w' : World} (hb : Below w.heap.size w w') : NAPost noA w (.returned (.tuple #[.agg #[.int .i64 0, .slice none 0 0, .int .i64 0, .slice none 0 0], .bool false])) w' :=
  ⟨none, 0, none, 0, rfl, .inl ⟨rfl, rfl, rfl⟩, .inl ⟨rfl, rfl, rfl⟩, hb⟩
theorem yes_post {now far : Int} {is : List Int} {ls : List (Int × Int × Int × ByteArray)} {w w' : World} {A A' : Option Addr} {c c' n n' : Nat} (hn : is.length = n) (hn' : ls.length = n') (hi : OwnI w' w.heap.size w'.heap.size A c is) (hl : OwnL w' w.heap.size w'.heap.size A' c' ls) (hb : Below w.heap.size w w') : NAPost (now, is, far, ls, true) w (.returned (.tuple #[.agg #[.int .i64 now, .slice A n c, .int .i64 far, .slice A' n' c'], .bool true])) w' :=
  ⟨A, c, A', c', by simp only [hn, hn'], hi, hl, hb⟩

set_option maxHeartbeats 2000000 in
theorem onlyGood_any (now far : Int) (A A' : Option Addr) (n c n' c' : Nat) (is : List Int) (ls : List (Int × Int × Int × ByteArray)) (B : Nat) (w : World) (hn : is.length = n) (hn' : ls.length = n') (h : IntsB w B A is) (h' : LetsB w B A' ls) (hB : B ≤ w.heap.size) (hm : LSmall ls) (hl : n ≤ 1048576) :
    Calls Try.prog 75 #[.agg #[.int .i64 now, .slice A n c, .int .i64 far, .slice A' n' c']] w fun e w' => e = .returned (.tuple #[bif netB now is far ls then .agg #[.int .i64 now, .slice A n c, .int .i64 far, .slice A' n' c'] else .agg #[.int .i64 0, .slice none 0 0, .int .i64 0, .slice none 0 0], .bool (netB now is far ls)]) ∧ Below w.heap.size w w' := by
  have hb0 := below2 w (.cells #[.int .i64 now, .slice A n c, .int .i64 far, .slice A' n' c'] 35) (.cells #[.int .i64 0, .slice none 0 0, .int .i64 0, .slice none 0 0] 35)
  have hk0 : ((w.alloc (.cells #[.int .i64 now, .slice A n c, .int .i64 far, .slice A' n' c'] 35)).alloc (.cells #[.int .i64 0, .slice none 0 0, .int .i64 0, .slice none 0 0] 35)).heap[w.heap.size]? = some (.cells #[.int .i64 now, .slice A n c, .int .i64 far, .slice A' n' c'] 35 (0, 0)) := ((below1 (w.alloc (.cells #[.int .i64 now, .slice A n c, .int .i64 far, .slice A' n' c'] 35)) (.cells #[.int .i64 0, .slice none 0 0, .int .i64 0, .slice none 0 0] 35)).block w.heap.size (by simp)).trans (heap_alloc_new w (.cells #[.int .i64 now, .slice A n c, .int .i64 far, .slice A' n' c'] 35))
  have hr0 := alloc_snd w (.cells #[.int .i64 now, .slice A n c, .int .i64 far, .slice A' n' c'] 35) (.cells #[.int .i64 0, .slice none 0 0, .int .i64 0, .slice none 0 0] 35)
  have HG := Lib.hid (fun W (hW : Below w.heap.size w W) => implGoodNet_any now far A A' n c n' c' is ls B W hn hn' (h.below (hW.mono hB)) (h'.below (hW.mono hB)) (Nat.le_trans hB hW.size) hm)
  cases g1 : netB now is far ls with
  | false =>
    rw [g1] at HG
    simp only [cond_false]
    clear h h' hm hn hn' g1
    go_enter Try.func75, Try.ntmps75
    go_wp2_with fail
    refine (HG.out _ hb0).mono ?_
    rintro e w1 ⟨rfl, ha1⟩
    have hk1 := (ha1.block w.heap.size (lt_blk hk0)).trans hk0
    have hr1 := (ha1.block (w.heap.size + 1) (lt_blk hr0)).trans hr0
    have hb1 := hb0.trans (ha1.mono hb0.size)
    have k10 := cell_of_row _ _ 0 _ 35 (0, 0) hk1
    have k11 := cell_of_row _ _ 1 _ 35 (0, 0) hk1
    have k12 := cell_of_row _ _ 2 _ 35 (0, 0) hk1
    have k13 := cell_of_row _ _ 3 _ 35 (0, 0) hk1
    have r10 := cell_of_row _ _ 0 _ 35 (0, 0) hr1
    have f10 := free_blk hr1 0
    have r11 := cell_of_row _ _ 1 _ 35 (0, 0) hr1
    have f11 := free_blk hr1 1
    have r12 := cell_of_row _ _ 2 _ 35 (0, 0) hr1
    have f12 := free_blk hr1 2
    have r13 := cell_of_row _ _ 3 _ 35 (0, 0) hr1
    have f13 := free_blk hr1 3
    clear ha1 hk0 hr0 hb0
    have HBN := Lib.hid hb1
    clear hb1 hk1 hr1
    go_wp2
    exact bodyPost_ret (v := .tuple #[.agg #[.int .i64 0, .slice none 0 0, .int .i64 0, .slice none 0 0], .bool false]) (by simp [results, Try.results75, go_sem, r10, f10, r11, f11, r12, f12, r13, f13]) rfl ⟨rfl, bel_put4 HBN.out (by omega)⟩
  | true =>
    rw [g1] at HG
    simp only [cond_true]
    clear h h' hm hn hn' g1
    go_enter Try.func75, Try.ntmps75
    go_wp2_with fail
    refine (HG.out _ hb0).mono ?_
    rintro e w1 ⟨rfl, ha1⟩
    have hk1 := (ha1.block w.heap.size (lt_blk hk0)).trans hk0
    have hr1 := (ha1.block (w.heap.size + 1) (lt_blk hr0)).trans hr0
    have hb1 := hb0.trans (ha1.mono hb0.size)
    have k10 := cell_of_row _ _ 0 _ 35 (0, 0) hk1
    have k11 := cell_of_row _ _ 1 _ 35 (0, 0) hk1
    have k12 := cell_of_row _ _ 2 _ 35 (0, 0) hk1
    have k13 := cell_of_row _ _ 3 _ 35 (0, 0) hk1
    have r10 := cell_of_row _ _ 0 _ 35 (0, 0) hr1
    have f10 := free_blk hr1 0
    have r11 := cell_of_row _ _ 1 _ 35 (0, 0) hr1
    have f11 := free_blk hr1 1
    have r12 := cell_of_row _ _ 2 _ 35 (0, 0) hr1
    have f12 := free_blk hr1 2
    have r13 := cell_of_row _ _ 3 _ 35 (0, 0) hr1
    have f13 := free_blk hr1 3
    clear ha1 hk0 hr0 hb0
    have HBN := Lib.hid hb1
    clear hb1 hk1 hr1
    go_wp2
    exact bodyPost_ret (v := .tuple #[.agg #[.int .i64 now, .slice A n c, .int .i64 far, .slice A' n' c'], .bool true]) (by simp [results, Try.results75, go_sem, r10, f10, r11, f11, r12, f12, r13, f13]) rfl ⟨rfl, bel_put4 HBN.out (by omega)⟩

set_option maxHeartbeats 2000000 in
theorem l7If_any (now far : Int) (A A' : Option Addr) (n c n' c' : Nat) (is : List Int) (ls : List (Int × Int × Int × ByteArray)) (B : Nat) (w : World) (hn : is.length = n) (hn' : ls.length = n') (h : IntsB w B A is) (h' : LetsB w B A' ls) (hB : B ≤ w.heap.size) (hm : LSmall ls) (hl : n ≤ 1048576) :
    Calls Try.prog 78 #[.agg #[.int .i64 now, .slice A n c, .int .i64 far, .slice A' n' c']] w fun e w' => e = .returned (.tuple #[bif netB now is far ls then .agg #[.int .i64 now, .slice A n c, .int .i64 far, .slice A' n' c'] else .agg #[.int .i64 0, .slice none 0 0, .int .i64 0, .slice none 0 0], .bool (netB now is far ls)]) ∧ Below w.heap.size w w' := by
  have hb0 := below2 w (.cells #[.int .i64 now, .slice A n c, .int .i64 far, .slice A' n' c'] 35) (.cells #[.int .i64 0, .slice none 0 0, .int .i64 0, .slice none 0 0] 35)
  have hk0 : ((w.alloc (.cells #[.int .i64 now, .slice A n c, .int .i64 far, .slice A' n' c'] 35)).alloc (.cells #[.int .i64 0, .slice none 0 0, .int .i64 0, .slice none 0 0] 35)).heap[w.heap.size]? = some (.cells #[.int .i64 now, .slice A n c, .int .i64 far, .slice A' n' c'] 35 (0, 0)) := ((below1 (w.alloc (.cells #[.int .i64 now, .slice A n c, .int .i64 far, .slice A' n' c'] 35)) (.cells #[.int .i64 0, .slice none 0 0, .int .i64 0, .slice none 0 0] 35)).block w.heap.size (by simp)).trans (heap_alloc_new w (.cells #[.int .i64 now, .slice A n c, .int .i64 far, .slice A' n' c'] 35))
  have hr0 := alloc_snd w (.cells #[.int .i64 now, .slice A n c, .int .i64 far, .slice A' n' c'] 35) (.cells #[.int .i64 0, .slice none 0 0, .int .i64 0, .slice none 0 0] 35)
  have HG := Lib.hid (fun W (hW : Below w.heap.size w W) => l7Good_any now far A A' n c n' c' is ls B W hn hn' (h.below (hW.mono hB)) (h'.below (hW.mono hB)) (Nat.le_trans hB hW.size) hm hl)
  cases g1 : netB now is far ls with
  | false =>
    rw [g1] at HG
    simp only [cond_false]
    clear h h' hm hn hn' g1
    go_enter Try.func78, Try.ntmps78
    go_wp2_with fail
    refine (HG.out _ hb0).mono ?_
    rintro e w1 ⟨rfl, ha1⟩
    have hk1 := (ha1.block w.heap.size (lt_blk hk0)).trans hk0
    have hr1 := (ha1.block (w.heap.size + 1) (lt_blk hr0)).trans hr0
    have hb1 := hb0.trans (ha1.mono hb0.size)
    have k10 := cell_of_row _ _ 0 _ 35 (0, 0) hk1
    have k11 := cell_of_row _ _ 1 _ 35 (0, 0) hk1
    have k12 := cell_of_row _ _ 2 _ 35 (0, 0) hk1
    have k13 := cell_of_row _ _ 3 _ 35 (0, 0) hk1
    have r10 := cell_of_row _ _ 0 _ 35 (0, 0) hr1
    have f10 := free_blk hr1 0
    have r11 := cell_of_row _ _ 1 _ 35 (0, 0) hr1
    have f11 := free_blk hr1 1
    have r12 := cell_of_row _ _ 2 _ 35 (0, 0) hr1
    have f12 := free_blk hr1 2
    have r13 := cell_of_row _ _ 3 _ 35 (0, 0) hr1
    have f13 := free_blk hr1 3
    clear ha1 hk0 hr0 hb0
    have HBN := Lib.hid hb1
    clear hb1 hk1 hr1
    go_wp2
    exact bodyPost_ret (v := .tuple #[.agg #[.int .i64 0, .slice none 0 0, .int .i64 0, .slice none 0 0], .bool false]) (by simp [results, Try.results78, go_sem, r10, f10, r11, f11, r12, f12, r13, f13]) rfl ⟨rfl, bel_put4 HBN.out (by omega)⟩
  | true =>
    rw [g1] at HG
    simp only [cond_true]
    clear h h' hm hn hn' g1
    go_enter Try.func78, Try.ntmps78
    go_wp2_with fail
    refine (HG.out _ hb0).mono ?_
    rintro e w1 ⟨rfl, ha1⟩
    have hk1 := (ha1.block w.heap.size (lt_blk hk0)).trans hk0
    have hr1 := (ha1.block (w.heap.size + 1) (lt_blk hr0)).trans hr0
    have hb1 := hb0.trans (ha1.mono hb0.size)
    have k10 := cell_of_row _ _ 0 _ 35 (0, 0) hk1
    have k11 := cell_of_row _ _ 1 _ 35 (0, 0) hk1
    have k12 := cell_of_row _ _ 2 _ 35 (0, 0) hk1
    have k13 := cell_of_row _ _ 3 _ 35 (0, 0) hk1
    have r10 := cell_of_row _ _ 0 _ 35 (0, 0) hr1
    have f10 := free_blk hr1 0
    have r11 := cell_of_row _ _ 1 _ 35 (0, 0) hr1
    have f11 := free_blk hr1 1
    have r12 := cell_of_row _ _ 2 _ 35 (0, 0) hr1
    have f12 := free_blk hr1 2
    have r13 := cell_of_row _ _ 3 _ 35 (0, 0) hr1
    have f13 := free_blk hr1 3
    clear ha1 hk0 hr0 hb0
    have HBN := Lib.hid hb1
    clear hb1 hk1 hr1
    go_wp2
    exact bodyPost_ret (v := .tuple #[.agg #[.int .i64 now, .slice A n c, .int .i64 far, .slice A' n' c'], .bool true]) (by simp [results, Try.results78, go_sem, r10, f10, r11, f11, r12, f12, r13, f13]) rfl ⟨rfl, bel_put4 HBN.out (by omega)⟩

set_option maxHeartbeats 2000000 in
theorem hasLetter_any (now far : Int) (A A' : Option Addr) (n c n' c' : Nat) (is : List Int) (ls : List (Int × Int × Int × ByteArray)) (i : Int) (B : Nat) (w : World) (hn : is.length = n) (hn' : ls.length = n') (h : IntsB w B A is) (h' : LetsB w B A' ls) (hB : B ≤ w.heap.size) (hm : LSmall ls) (hl : n ≤ 1048576) :
    Calls Try.prog 85 #[.agg #[.int .i64 now, .slice A n c, .int .i64 far, .slice A' n' c'], .int .i64 i] w fun e w' => e = .returned (.bool (hasB now is far ls i)) ∧ Below w.heap.size w w' := by
  have hb0 := below1 w (.cells #[.int .i64 now, .slice A n c, .int .i64 far, .slice A' n' c'] 35)
  have hk0 := heap_alloc_new w (.cells #[.int .i64 now, .slice A n c, .int .i64 far, .slice A' n' c'] 35)
  have HG := Lib.hid (fun W (hW : Below w.heap.size w W) => implGoodNet_any now far A A' n c n' c' is ls B W hn hn' (h.below (hW.mono hB)) (h'.below (hW.mono hB)) (Nat.le_trans hB hW.size) hm)
  have hm1 : n' ≤ 2000000 := by rw [← hn']; exact hm.1
  have hm2 : (n' : Int) ≤ 2000000 := by omega
  unfold hasB
  rw [hn']
  cases g1 : netB now is far ls with
  | false =>
    rw [g1] at HG
    simp only [Bool.false_and]
    clear h h' hm hn hn' g1
    go_enter Try.func85, Try.ntmps85
    go_wp2_with fail
    refine (HG.out _ hb0).mono ?_
    rintro e w1 ⟨rfl, ha1⟩
    have hk1 := (ha1.block w.heap.size (lt_blk hk0)).trans hk0
    have k13 := cell_of_row _ _ 3 _ 35 (0, 0) hk1
    have HB := Lib.hid (hb0.trans (ha1.mono hb0.size))
    clear ha1 hk1 hk0 hb0
    go_wp2
    go_ret
    exact ⟨rfl, HB.out⟩
  | true =>
    rw [g1] at HG
    simp only [Bool.true_and]
    clear h h' hm hn hn' g1
    by_cases i0 : 0 ≤ i
    · by_cases i1 : i < (n' : Int)
      · rw [inB_mk (show 0 ≤ i ∧ i ≤ (n' : Int) - 1 by omega)]
        go_enter Try.func85, Try.ntmps85
        go_wp2_with fail
        refine (HG.out _ hb0).mono ?_
        rintro e w1 ⟨rfl, ha1⟩
        have hk1 := (ha1.block w.heap.size (lt_blk hk0)).trans hk0
        have k13 := cell_of_row _ _ 3 _ 35 (0, 0) hk1
        have HB := Lib.hid (hb0.trans (ha1.mono hb0.size))
        clear ha1 hk1 hk0 hb0
        go_wp2
        go_ret
        exact ⟨rfl, HB.out⟩
      · rw [inB_not (show ¬ (0 ≤ i ∧ i ≤ (n' : Int) - 1) by omega)]
        have i2 : decide (i < (n' : Int)) = false := by simp; omega
        go_enter Try.func85, Try.ntmps85
        go_wp2_with fail
        refine (HG.out _ hb0).mono ?_
        rintro e w1 ⟨rfl, ha1⟩
        have hk1 := (ha1.block w.heap.size (lt_blk hk0)).trans hk0
        have k13 := cell_of_row _ _ 3 _ 35 (0, 0) hk1
        have HB := Lib.hid (hb0.trans (ha1.mono hb0.size))
        clear ha1 hk1 hk0 hb0
        go_wp2
        go_ret
        exact ⟨rfl, HB.out⟩
    · rw [inB_not (show ¬ (0 ≤ i ∧ i ≤ (n' : Int) - 1) by omega)]
      go_enter Try.func85, Try.ntmps85
      go_wp2_with fail
      refine (HG.out _ hb0).mono ?_
      rintro e w1 ⟨rfl, ha1⟩
      have hk1 := (ha1.block w.heap.size (lt_blk hk0)).trans hk0
      have k13 := cell_of_row _ _ 3 _ 35 (0, 0) hk1
      have HB := Lib.hid (hb0.trans (ha1.mono hb0.size))
      clear ha1 hk1 hk0 hb0
      go_wp2
      go_ret
      exact ⟨rfl, HB.out⟩

end Go.Proofs.Ytojplmjoipjabaa.Nt
