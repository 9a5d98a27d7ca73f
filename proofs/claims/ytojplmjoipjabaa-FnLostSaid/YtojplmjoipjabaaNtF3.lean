/-
  LoseOne, DelayOne, Deliver, NewNet of the program.
-/
import Derived.Test.YtojplmjoipjabaaNtF2
namespace Go.Proofs.Ytojplmjoipjabaa.Nt
open Go.RowKit
set_option linter.unusedVariables false
set_option linter.unusedSimpArgs false

theorem drop_one {ls : List (Int × Int × Int × ByteArray)} {k : Nat} (h : k < ls.length) : (ls.drop k).take (k + 1 - k) = [ls[k]] := by
  rw [show k + 1 - k = 1 by omega, List.drop_eq_getElem_cons h]
  rfl
/-- A net and the letters delivered, as an answer. -/
def DlvPost (a : (Int × List Int × Int × List (Int × Int × Int × ByteArray) × Bool) × List (Int × Int × Int × ByteArray)) (w : World) (e : Ending) (w' : World) : Prop :=
  ∃ A c A' c' D d, e = .returned (.tuple #[.agg #[.int .i64 a.1.1, .slice A a.1.2.1.length c, .int .i64 a.1.2.2.1, .slice A' a.1.2.2.2.1.length c'], .slice D a.2.length d, .bool a.1.2.2.2.2]) ∧ OwnI w' w.heap.size w'.heap.size A c a.1.2.1 ∧ OwnL w' w.heap.size w'.heap.size A' c' a.1.2.2.2.1 ∧ OwnL w' w.heap.size w'.heap.size D d a.2 ∧ (∀ x y, A' = some x → D = some y → x.block ≠ y.block) ∧ Below w.heap.size w w'

set_option maxRecDepth 100000 in
set_option maxHeartbeats 4000000 in
theorem implLoseOne_any (now far : Int) (A A' : Option Addr) (n c n' c' : Nat) (is : List Int) (ls : List (Int × Int × Int × ByteArray)) (i : Int) (B : Nat) (w : World) (hn : is.length = n) (hn' : ls.length = n') (h : IntsB w B A is) (h' : LetsB w B A' ls) (hB : B ≤ w.heap.size) (hm : LSmall ls) (hl : n ≤ 1048576) (hcap : n' ≤ c' ∧ c' ≤ maxLen) :
    Calls Try.prog 40 #[.agg #[.int .i64 now, .slice A n c, .int .i64 far, .slice A' n' c'], .int .i64 i] w (NAPost (loseA now is far ls i) w) := by
  have hb0 := below2 w (.cells #[.int .i64 now, .slice A n c, .int .i64 far, .slice A' n' c'] 35) (.cells #[.int .i64 0, .slice none 0 0, .int .i64 0, .slice none 0 0] 35)
  have hk0 : ((w.alloc (.cells #[.int .i64 now, .slice A n c, .int .i64 far, .slice A' n' c'] 35)).alloc (.cells #[.int .i64 0, .slice none 0 0, .int .i64 0, .slice none 0 0] 35)).heap[w.heap.size]? = some (.cells #[.int .i64 now, .slice A n c, .int .i64 far, .slice A' n' c'] 35 (0, 0)) := ((below1 (w.alloc (.cells #[.int .i64 now, .slice A n c, .int .i64 far, .slice A' n' c'] 35)) (.cells #[.int .i64 0, .slice none 0 0, .int .i64 0, .slice none 0 0] 35)).block w.heap.size (by simp)).trans (heap_alloc_new w (.cells #[.int .i64 now, .slice A n c, .int .i64 far, .slice A' n' c'] 35))
  have hr0 := alloc_snd w (.cells #[.int .i64 now, .slice A n c, .int .i64 far, .slice A' n' c'] 35) (.cells #[.int .i64 0, .slice none 0 0, .int .i64 0, .slice none 0 0] 35)
  have HT := Lib.hid (fun W (hW : Below w.heap.size w W) => hasLetter_any now far A A' n c n' c' is ls i B W hn hn' (h.below (hW.mono hB)) (h'.below (hW.mono hB)) (Nat.le_trans hB hW.size) hm hl)
  have hcn := fun W (hW : Below w.heap.size w W) => copyNet_any now far A A' n c n' c' is ls B W hn hn' (h.below (hW.mono hB)) (h'.below (hW.mono hB)) (Nat.le_trans hB hW.size) (by omega) (by rw [← hn']; exact hm.1)
  unfold NetV at hcn
  simp only [hn, hn'] at hcn
  have HCN := Lib.hid hcn
  clear hcn
  cases hg1 : hasB now is far ls i with
  | false =>
    rw [hg1] at HT
    have HNA := Lib.hid (show loseA now is far ls i = noA by unfold loseA; rw [hg1]; simp)
    clear h h' hm hn hn' hg1 HCN
    go_enter Try.func40, Try.ntmps40
    go_wp2_with fail
    refine (HT.out _ hb0).mono ?_
    rintro e w1 ⟨rfl, ha1⟩
    have hk1 := (ha1.block w.heap.size (lt_blk hk0)).trans hk0
    have hr1 := (ha1.block (w.heap.size + 1) (lt_blk hr0)).trans hr0
    have hb1 := hb0.trans (ha1.mono hb0.size)
    have k10 := cell_of_row _ _ 0 _ 35 (0, 0) hk1
    have k11 := cell_of_row _ _ 1 _ 35 (0, 0) hk1
    have k12 := cell_of_row _ _ 2 _ 35 (0, 0) hk1
    have k13 := cell_of_row _ _ 3 _ 35 (0, 0) hk1
    have r10 := cell_of_row _ _ 0 _ 35 (0, 0) hr1
    have f10 := free_blk hr1 0
    have r11 := cell_of_row _ _ 1 _ 35 (0, 0) hr1
    have f11 := free_blk hr1 1
    have r12 := cell_of_row _ _ 2 _ 35 (0, 0) hr1
    have f12 := free_blk hr1 2
    have r13 := cell_of_row _ _ 3 _ 35 (0, 0) hr1
    have f13 := free_blk hr1 3
    clear ha1 hk0 hr0 hb0
    have HBN := Lib.hid hb1
    clear hb1 hk1 hr1
    go_wp2
    exact bodyPost_ret (v := .tuple #[.agg #[.int .i64 0, .slice none 0 0, .int .i64 0, .slice none 0 0], .bool false]) (by simp [results, Try.results40, go_sem, r10, f10, r11, f11, r12, f12, r13, f13]) rfl (by rw [HNA.out]; exact noA_post (bel_put4 HBN.out (by omega)))
  | true =>
    rw [hg1] at HT
    obtain ⟨g1, hi0, hi1⟩ := hasB_true hg1
    obtain ⟨gt, gh, gf, gl, gu⟩ := netB_true g1
    obtain ⟨gh1, gh5, ghh⟩ := homesB_true gh
    have gf2 := inB_true gf
    have gt2 := inB_true gt
    have hasc := undB_asc gu
    rw [hn'] at gl
    rw [hn'] at hi1
    obtain ⟨k, rfl⟩ : ∃ k : Nat, i = (k : Int) := ⟨i.toNat, by omega⟩
    have hkn : k < n' := by omega
    obtain ⟨bb, off, hA', hbB, hcl⟩ := h'.get (by omega)
    obtain ⟨hc0, hc1, hc2, hc3⟩ := hcl k (by omega)
    have hlet := letAt_get (show k < ls.length by omega)
    have hsm := hm.2 _ (List.getElem_mem (show k < ls.length by omega))
    have hglb := (undB_low gu _ (List.getElem_mem (show k < ls.length by omega))).2
    have hgp := glB_parts hglb
    obtain ⟨y, hy⟩ : ∃ y, y = ls[k]'(by omega) := ⟨_, rfl⟩
    rw [← hy] at hc0 hc1 hc2 hc3 hlet hsm hgp
    obtain ⟨f, t, d, s⟩ := y
    simp only at hc0 hc1 hc2 hc3 hsm hgp
    have hbw : bb < w.heap.size := Nat.lt_of_lt_of_le hbB hB
    have hki : (k : Int) < (n' : Int) := by omega
    subst hA'
    have HS := Lib.hid (show loseA now is far ls (k : Int) = (now, is, far, ls.take k ++ ls.drop (k + 1), true) by unfold loseA; rw [hg1, if_pos rfl]; rfl)
    have hus := outL_len ls k (by omega)
    unfold outL at hus
    obtain ⟨us, husd⟩ : ∃ us, us = ls.take k ++ ls.drop (k + 1) := ⟨_, rfl⟩
    rw [← husd] at HS hus
    have HUSD := Lib.hid husd
    have hu1 : us.length = n' - 1 := by omega
    clear husd hus g1 gt gh gf gu gh1 gh5 ghh gf2 gt2 h h' hm hg1 hlet hy hcl hgp hglb hc0 hc1 hc2 hc3 hsm hasc
    go_enter Try.func40, Try.ntmps40
    go_wp2_with fail
    refine (HT.out _ hb0).mono ?_
    rintro e w1 ⟨rfl, ha1⟩
    have hk1 := (ha1.block w.heap.size (lt_blk hk0)).trans hk0
    have hr1 := (ha1.block (w.heap.size + 1) (lt_blk hr0)).trans hr0
    have hb1 := hb0.trans (ha1.mono hb0.size)
    have k10 := cell_of_row _ _ 0 _ 35 (0, 0) hk1
    have k11 := cell_of_row _ _ 1 _ 35 (0, 0) hk1
    have k12 := cell_of_row _ _ 2 _ 35 (0, 0) hk1
    have k13 := cell_of_row _ _ 3 _ 35 (0, 0) hk1
    have r10 := cell_of_row _ _ 0 _ 35 (0, 0) hr1
    have f10 := free_blk hr1 0
    have r11 := cell_of_row _ _ 1 _ 35 (0, 0) hr1
    have f11 := free_blk hr1 1
    have r12 := cell_of_row _ _ 2 _ 35 (0, 0) hr1
    have f12 := free_blk hr1 2
    have r13 := cell_of_row _ _ 3 _ 35 (0, 0) hr1
    have f13 := free_blk hr1 3
    clear ha1 hk0 hr0 hb0
    go_wp2_with fail
    refine (HCN.out _ hb1).mono ?_
    rintro e w2 ⟨A1, c1, A2, c2, rfl, hoi, hol, ha2⟩
    have hk2 := (ha2.block w.heap.size (lt_blk hk1)).trans hk1
    have hr2 := (ha2.block (w.heap.size + 1) (lt_blk hr1)).trans hr1
    have hb2 := hb1.trans (ha2.mono hb1.size)
    have hl1 := lt_blk hr1
    have hl2 := lt_blk hr2
    have hkl2 := lt_blk hk2
    have hsz2 := ha2.size
    have k20 := cell_of_row _ _ 0 _ 35 (0, 0) hk2
    have k21 := cell_of_row _ _ 1 _ 35 (0, 0) hk2
    have k22 := cell_of_row _ _ 2 _ 35 (0, 0) hk2
    have k23 := cell_of_row _ _ 3 _ 35 (0, 0) hk2
    have r20 := cell_of_row _ _ 0 _ 35 (0, 0) hr2
    have f20 := free_blk hr2 0
    have r21 := cell_of_row _ _ 1 _ 35 (0, 0) hr2
    have f21 := free_blk hr2 1
    have r22 := cell_of_row _ _ 2 _ 35 (0, 0) hr2
    have f22 := free_blk hr2 2
    have r23 := cell_of_row _ _ 3 _ 35 (0, 0) hr2
    have f23 := free_blk hr2 3
    clear ha2 hk1 hr1 hb1 k10 k11 k12 k13 r10 r11 r12 r13 f10 f11 f12 f13
    go_wp2_with fail
    obtain ⟨V, hV⟩ : ∃ V, V = w2.alloc (.cells #[.int .i64 now, .slice A1 n c1, .int .i64 far, .slice A2 n' c2] 35) := ⟨_, rfl⟩
    have haV := below1 w2 (.cells #[.int .i64 now, .slice A1 n c1, .int .i64 far, .slice A2 n' c2] 35)
    have hsV := heap_alloc_new w2 (.cells #[.int .i64 now, .slice A1 n c1, .int .i64 far, .slice A2 n' c2] 35)
    rw [← hV] at haV hsV ⊢
    have hkV := (haV.block w.heap.size (lt_blk hk2)).trans hk2
    have hrV := (haV.block (w.heap.size + 1) (lt_blk hr2)).trans hr2
    have hbV := hb2.trans (haV.mono hb2.size)
    have hoiV := hoi.since haV (Nat.le_refl _)
    have holV := hol.since haV (Nat.le_refl _)
    have hszV : V.heap.size = w2.heap.size + 1 := by rw [hV]; simp
    have HZV := Lib.hid hszV
    clear hV haV hoi hol hszV hk2 hr2 hb2 k20 k21 k22 k23 r20 r21 r22 r23 f20 f21 f22 f23
    have hlw : w.heap.size + 1 < w1.heap.size := hl1
    have HTK := Lib.hid (takeLetters_any w2.heap.size n' c2 w1.heap.size w2.heap.size k (k + 1) A2 _ _ _ ls V hn' hsV holV (Nat.le_refl _) (by omega) (by omega) (by omega))
    rw [show ((k + 1 : Nat) : Int) = (k : Int) + 1 by omega] at HTK
    refine HTK.out.mono ?_
    rw [← HUSD.out]
    rintro e w3 ⟨A3, c3, rfl, ho4, hs3, ho3, ht3⟩
    rw [hu1] at hs3
    have hZ := HZV.out
    have hrow3 := fun x hx => own_range holV x hx
    have hk3 := ht3.blk hkV (by omega) (fun x hx => by have := (hrow3 x hx).1; omega)
    have hr3 := ht3.blk hrV (by omega) (fun x hx => by have := (hrow3 x hx).1; omega)
    have hoi3 := ht3.ints hoiV holV (Nat.le_refl _)
    have hb3 := hbV.trans (ht3.below (by omega) (fun x hx => by have := (hrow3 x hx).1; omega) hbV.size)
    have hzz3 := ht3.2.2.2.1
    have q30 := cell_of_row _ _ 0 _ 35 (0, 0) hs3
    have g30 := free_blk hs3 0
    have q31 := cell_of_row _ _ 1 _ 35 (0, 0) hs3
    have g31 := free_blk hs3 1
    have q32 := cell_of_row _ _ 2 _ 35 (0, 0) hs3
    have g32 := free_blk hs3 2
    have q33 := cell_of_row _ _ 3 _ 35 (0, 0) hs3
    have g33 := free_blk hs3 3
    have r30 := cell_of_row _ _ 0 _ 35 (0, 0) hr3
    have f30 := free_blk hr3 0
    have r31 := cell_of_row _ _ 1 _ 35 (0, 0) hr3
    have f31 := free_blk hr3 1
    have r32 := cell_of_row _ _ 2 _ 35 (0, 0) hr3
    have f32 := free_blk hr3 2
    have r33 := cell_of_row _ _ 3 _ 35 (0, 0) hr3
    have f33 := free_blk hr3 3
    have k30 := cell_of_row _ _ 0 _ 35 (0, 0) hk3
    have k31 := cell_of_row _ _ 1 _ 35 (0, 0) hk3
    have k32 := cell_of_row _ _ 2 _ 35 (0, 0) hk3
    have k33 := cell_of_row _ _ 3 _ 35 (0, 0) hk3
    have HAN := Lib.hid (show NAPost (loseA now is far ls (k : Int)) w (.returned (.tuple #[.agg #[.int .i64 now, .slice A1 n c1, .int .i64 far, .slice A2 (n' - 1) c2], .bool true])) ((((w3.setCell ⟨w.heap.size + 1, 0, none⟩ (.int .i64 now)).setCell ⟨w.heap.size + 1, 1, none⟩ (.slice A1 n c1)).setCell ⟨w.heap.size + 1, 2, none⟩ (.int .i64 far)).setCell ⟨w.heap.size + 1, 3, none⟩ (.slice A2 (n' - 1) c2)) by
      rw [HS.out]
      exact yes_post hn hu1 ((OwnI.put4 hoi3 (by omega)).wider (by omega) (by simp [World.setCell]; omega)) ((OwnL.put4 ho3 (by omega)).wider (by omega) (by simp [World.setCell]; omega)) (bel_put4 hb3 (by omega)))
    clear hs3 hk3 hr3 hb3 hoi3 ho3 ho4 ht3 hrow3 hzz3 hkV hrV hsV hbV hoiV holV hu1 hn hn' hZ hlw hsz2
    go_wp2
    exact bodyPost_ret (v := .tuple #[.agg #[.int .i64 now, .slice A1 n c1, .int .i64 far, .slice A2 (n' - 1) c2], .bool true]) (by simp [results, Try.results40, go_sem, r30, f30, r31, f31, r32, f32, r33, f33]) rfl HAN.out

set_option maxRecDepth 100000 in
set_option maxHeartbeats 4000000 in
theorem implDeliver_any (now far : Int) (A A' : Option Addr) (n c n' c' : Nat) (is : List Int) (ls : List (Int × Int × Int × ByteArray)) (B : Nat) (w : World) (hn : is.length = n) (hn' : ls.length = n') (h : IntsB w B A is) (h' : LetsB w B A' ls) (hB : B ≤ w.heap.size) (hm : LSmall ls) (hl : n ≤ 1048576) (hcap : n' ≤ c' ∧ c' ≤ maxLen) :
    Calls Try.prog 37 #[.agg #[.int .i64 now, .slice A n c, .int .i64 far, .slice A' n' c']] w (DlvPost (dlvA now is far ls) w) := by
  have hb0 := below2 w (.cells #[.int .i64 now, .slice A n c, .int .i64 far, .slice A' n' c'] 35) (.cells #[.int .i64 0, .slice none 0 0, .int .i64 0, .slice none 0 0] 35)
  have hk0 : ((w.alloc (.cells #[.int .i64 now, .slice A n c, .int .i64 far, .slice A' n' c'] 35)).alloc (.cells #[.int .i64 0, .slice none 0 0, .int .i64 0, .slice none 0 0] 35)).heap[w.heap.size]? = some (.cells #[.int .i64 now, .slice A n c, .int .i64 far, .slice A' n' c'] 35 (0, 0)) := ((below1 (w.alloc (.cells #[.int .i64 now, .slice A n c, .int .i64 far, .slice A' n' c'] 35)) (.cells #[.int .i64 0, .slice none 0 0, .int .i64 0, .slice none 0 0] 35)).block w.heap.size (by simp)).trans (heap_alloc_new w (.cells #[.int .i64 now, .slice A n c, .int .i64 far, .slice A' n' c'] 35))
  have hr0 := alloc_snd w (.cells #[.int .i64 now, .slice A n c, .int .i64 far, .slice A' n' c'] 35) (.cells #[.int .i64 0, .slice none 0 0, .int .i64 0, .slice none 0 0] 35)
  have HT := Lib.hid (fun W (hW : Below w.heap.size w W) => implGoodNet_any now far A A' n c n' c' is ls B W hn hn' (h.below (hW.mono hB)) (h'.below (hW.mono hB)) (Nat.le_trans hB hW.size) hm)
  have hcn := fun W (hW : Below w.heap.size w W) => copyNet_any now far A A' n c n' c' is ls B W hn hn' (h.below (hW.mono hB)) (h'.below (hW.mono hB)) (Nat.le_trans hB hW.size) (by omega) (by rw [← hn']; exact hm.1)
  unfold NetV at hcn
  simp only [hn, hn'] at hcn
  have HCN := Lib.hid hcn
  clear hcn
  cases g1 : netB now is far ls with
  | false =>
    rw [g1] at HT
    have HNA := Lib.hid (show dlvA now is far ls = (noA, []) by unfold dlvA; rw [g1]; simp)
    clear h h' hm hn hn' g1 HCN
    go_enter Try.func37, Try.ntmps37
    go_wp2_with fail
    refine (HT.out _ hb0).mono ?_
    rintro e w1 ⟨rfl, ha1⟩
    have hk1 := (ha1.block w.heap.size (lt_blk hk0)).trans hk0
    have hr1 := (ha1.block (w.heap.size + 1) (lt_blk hr0)).trans hr0
    have hb1 := hb0.trans (ha1.mono hb0.size)
    have k10 := cell_of_row _ _ 0 _ 35 (0, 0) hk1
    have k11 := cell_of_row _ _ 1 _ 35 (0, 0) hk1
    have k12 := cell_of_row _ _ 2 _ 35 (0, 0) hk1
    have k13 := cell_of_row _ _ 3 _ 35 (0, 0) hk1
    have r10 := cell_of_row _ _ 0 _ 35 (0, 0) hr1
    have f10 := free_blk hr1 0
    have r11 := cell_of_row _ _ 1 _ 35 (0, 0) hr1
    have f11 := free_blk hr1 1
    have r12 := cell_of_row _ _ 2 _ 35 (0, 0) hr1
    have f12 := free_blk hr1 2
    have r13 := cell_of_row _ _ 3 _ 35 (0, 0) hr1
    have f13 := free_blk hr1 3
    clear ha1 hk0 hr0 hb0
    have HBN := Lib.hid hb1
    clear hb1 hk1 hr1
    go_wp2
    exact bodyPost_ret (v := .tuple #[.agg #[.int .i64 0, .slice none 0 0, .int .i64 0, .slice none 0 0], .slice none 0 0, .bool false]) (by simp [results, Try.results37, go_sem, r10, f10, r11, f11, r12, f12, r13, f13]) rfl (by rw [HNA.out]; exact ⟨none, 0, none, 0, none, 0, rfl, .inl ⟨rfl, rfl, rfl⟩, .inl ⟨rfl, rfl, rfl⟩, .inl ⟨rfl, rfl, rfl⟩, (fun x y hx => by cases hx), bel_put4 HBN.out (by omega)⟩)
  | true =>
    rw [g1] at HT
    obtain ⟨gt, gh, gf, gl, gu⟩ := netB_true g1
    obtain ⟨gh1, gh5, ghh⟩ := homesB_true gh
    have gf2 := inB_true gf
    have gt2 := inB_true gt
    have hasc := undB_asc gu
    rw [hn'] at gl
    have hkl := dueK_le ls now
    obtain ⟨k, hk⟩ : ∃ k, k = dueK ls now := ⟨_, rfl⟩
    have HS := Lib.hid (show dlvA now is far ls = ((now, is, far, ls.take 0 ++ ls.drop k, true), (ls.drop 0).take (k - 0)) by unfold dlvA; rw [g1, if_pos rfl, hk]; simp)
    have HKD := Lib.hid hk
    rw [← hk, hn'] at hkl
    have hu1 : (ls.take 0 ++ ls.drop k).length = n' - k := by simp [hn']
    have hu2 : ((ls.drop 0).take (k - 0)).length = k := by simp; omega
    obtain ⟨gt3, gt4⟩ := gt2
    clear hk g1 gt gh gf gu gh1 gh5 ghh gf2 h h' hm
    go_enter Try.func37, Try.ntmps37
    go_wp2_with fail
    refine (HT.out _ hb0).mono ?_
    rintro e w1 ⟨rfl, ha1⟩
    have hk1 := (ha1.block w.heap.size (lt_blk hk0)).trans hk0
    have hr1 := (ha1.block (w.heap.size + 1) (lt_blk hr0)).trans hr0
    have hb1 := hb0.trans (ha1.mono hb0.size)
    have k10 := cell_of_row _ _ 0 _ 35 (0, 0) hk1
    have k11 := cell_of_row _ _ 1 _ 35 (0, 0) hk1
    have k12 := cell_of_row _ _ 2 _ 35 (0, 0) hk1
    have k13 := cell_of_row _ _ 3 _ 35 (0, 0) hk1
    have r10 := cell_of_row _ _ 0 _ 35 (0, 0) hr1
    have f10 := free_blk hr1 0
    have r11 := cell_of_row _ _ 1 _ 35 (0, 0) hr1
    have f11 := free_blk hr1 1
    have r12 := cell_of_row _ _ 2 _ 35 (0, 0) hr1
    have f12 := free_blk hr1 2
    have r13 := cell_of_row _ _ 3 _ 35 (0, 0) hr1
    have f13 := free_blk hr1 3
    clear ha1 hk0 hr0 hb0
    go_wp2_with fail
    refine (HCN.out _ hb1).mono ?_
    rintro e w2 ⟨A1, c1, A2, c2, rfl, hoi, hol, ha2⟩
    have hk2 := (ha2.block w.heap.size (lt_blk hk1)).trans hk1
    have hr2 := (ha2.block (w.heap.size + 1) (lt_blk hr1)).trans hr1
    have hb2 := hb1.trans (ha2.mono hb1.size)
    have hl1 := lt_blk hr1
    have hl2 := lt_blk hr2
    have hkl2 := lt_blk hk2
    have hsz2 := ha2.size
    have k20 := cell_of_row _ _ 0 _ 35 (0, 0) hk2
    have k21 := cell_of_row _ _ 1 _ 35 (0, 0) hk2
    have k22 := cell_of_row _ _ 2 _ 35 (0, 0) hk2
    have k23 := cell_of_row _ _ 3 _ 35 (0, 0) hk2
    have r20 := cell_of_row _ _ 0 _ 35 (0, 0) hr2
    have f20 := free_blk hr2 0
    have r21 := cell_of_row _ _ 1 _ 35 (0, 0) hr2
    have f21 := free_blk hr2 1
    have r22 := cell_of_row _ _ 2 _ 35 (0, 0) hr2
    have f22 := free_blk hr2 2
    have r23 := cell_of_row _ _ 3 _ 35 (0, 0) hr2
    have f23 := free_blk hr2 3
    clear ha2 hk1 hr1 hb1 k10 k11 k12 k13 r10 r11 r12 r13 f10 f11 f12 f13
    go_wp2_with fail
    obtain ⟨V, hV⟩ : ∃ V, V = w2.alloc (.cells #[.int .i64 now, .slice A1 n c1, .int .i64 far, .slice A2 n' c2] 35) := ⟨_, rfl⟩
    have haV := below1 w2 (.cells #[.int .i64 now, .slice A1 n c1, .int .i64 far, .slice A2 n' c2] 35)
    have hsV := heap_alloc_new w2 (.cells #[.int .i64 now, .slice A1 n c1, .int .i64 far, .slice A2 n' c2] 35)
    rw [← hV] at haV hsV ⊢
    have hkV := (haV.block w.heap.size (lt_blk hk2)).trans hk2
    have hrV := (haV.block (w.heap.size + 1) (lt_blk hr2)).trans hr2
    have hbV := hb2.trans (haV.mono hb2.size)
    have hoiV := hoi.since haV (Nat.le_refl _)
    have holV := hol.since haV (Nat.le_refl _)
    have hszV : V.heap.size = w2.heap.size + 1 := by rw [hV]; simp
    have HZV := Lib.hid hszV
    clear hV haV hoi hol hszV hk2 hr2 hb2 k20 k21 k22 k23 r20 r21 r22 r23 f20 f21 f22 f23
    have hlw : w.heap.size + 1 < w1.heap.size := hl1
    have hZ := HZV.out
    have HDB := Lib.hid (dueBy_any A2 n' c2 ls now w2.heap.size V hn' holV.lets (by omega) hasc (by omega))
    rw [← HKD.out] at HDB
    refine HDB.out.mono ?_
    rintro e w3 ⟨rfl, ha3⟩
    have hsV3 := (ha3.block w2.heap.size (by omega)).trans hsV
    have hkV3 := (ha3.block w.heap.size (by omega)).trans hkV
    have hrV3 := (ha3.block (w.heap.size + 1) (by omega)).trans hrV
    have hoiV3 := hoiV.since ha3 (by omega)
    have holV3 := holV.since ha3 (by omega)
    have hbV3 := hbV.trans (ha3.mono hbV.size)
    have hzV3 := ha3.size
    have HTK := Lib.hid (takeLetters_any w2.heap.size n' c2 w1.heap.size w2.heap.size 0 k A2 _ _ _ ls w3 hn' hsV3 holV3 (Nat.le_refl _) (by omega) (by omega) (by omega))
    rw [show ((0 : Nat) : Int) = 0 from rfl] at HTK
    clear ha3 hsV hkV hrV hoiV holV hbV
    go_wp2_with fail
    refine HTK.out.mono ?_
    rintro e w4 ⟨A3, c3, rfl, ho4, hs4, ho5, ht4⟩
    rw [hu1] at hs4
    have hrow4 := fun x hx => own_range holV3 x hx
    have hk4 := ht4.blk hkV3 (by omega) (fun x hx => by have := (hrow4 x hx).1; omega)
    have hr4 := ht4.blk hrV3 (by omega) (fun x hx => by have := (hrow4 x hx).1; omega)
    have hoi4 := ht4.ints hoiV3 holV3 (Nat.le_refl _)
    have hb4 := hbV3.trans (ht4.below (by omega) (fun x hx => by have := (hrow4 x hx).1; omega) hbV3.size)
    have hzz4 := ht4.2.2.2.1
    have q40 := cell_of_row _ _ 0 _ 35 (0, 0) hs4
    have g40 := free_blk hs4 0
    have q41 := cell_of_row _ _ 1 _ 35 (0, 0) hs4
    have g41 := free_blk hs4 1
    have q42 := cell_of_row _ _ 2 _ 35 (0, 0) hs4
    have g42 := free_blk hs4 2
    have q43 := cell_of_row _ _ 3 _ 35 (0, 0) hs4
    have g43 := free_blk hs4 3
    have r40 := cell_of_row _ _ 0 _ 35 (0, 0) hr4
    have f40 := free_blk hr4 0
    have r41 := cell_of_row _ _ 1 _ 35 (0, 0) hr4
    have f41 := free_blk hr4 1
    have r42 := cell_of_row _ _ 2 _ 35 (0, 0) hr4
    have f42 := free_blk hr4 2
    have r43 := cell_of_row _ _ 3 _ 35 (0, 0) hr4
    have f43 := free_blk hr4 3
    have k40 := cell_of_row _ _ 0 _ 35 (0, 0) hk4
    have k41 := cell_of_row _ _ 1 _ 35 (0, 0) hk4
    have k42 := cell_of_row _ _ 2 _ 35 (0, 0) hk4
    have k43 := cell_of_row _ _ 3 _ 35 (0, 0) hk4
    have HAN := Lib.hid (show DlvPost (dlvA now is far ls) w (.returned (.tuple #[.agg #[.int .i64 now, .slice A1 n c1, .int .i64 far, .slice A2 (n' - k) c2], .slice A3 k c3, .bool true])) ((((w4.setCell ⟨w.heap.size + 1, 0, none⟩ (.int .i64 now)).setCell ⟨w.heap.size + 1, 1, none⟩ (.slice A1 n c1)).setCell ⟨w.heap.size + 1, 2, none⟩ (.int .i64 far)).setCell ⟨w.heap.size + 1, 3, none⟩ (.slice A2 (n' - k) c2)) by
      rw [HS.out]
      exact ⟨A1, c1, A2, c2, A3, c3, by simp only [hn, hu1, hu2], (OwnI.put4 hoi4 (by omega)).wider (by omega) (by simp [World.setCell]; omega), (OwnL.put4 ho5 (by omega)).wider (by omega) (by simp [World.setCell]; omega), (OwnL.put4 ho4 (by omega)).wider (by omega) (by simp [World.setCell]), (fun x y hx hy => by have e1 := (own_range ho5 x hx).2; have e2 := (own_range ho4 y hy).1; omega), bel_put4 hb4 (by omega)⟩)
    rw [hu2]
    clear hs4 hk4 hr4 hb4 hoi4 ho4 ho5 ht4 hrow4 hzz4 hkV3 hrV3 hsV3 hbV3 hoiV3 holV3 hu1 hu2 hn hn' hZ hlw hsz2 hzV3 hkl hasc
    go_wp2
    exact bodyPost_ret (v := .tuple #[.agg #[.int .i64 now, .slice A1 n c1, .int .i64 far, .slice A2 (n' - k) c2], .slice A3 k c3, .bool true]) (by simp [results, Try.results37, go_sem, r40, f40, r41, f41, r42, f42, r43, f43]) rfl HAN.out
end Go.Proofs.Ytojplmjoipjabaa.Nt
