/-
  TakeLock, of the model and of the program.
-/
import Derived.Test.YtlfdefjkfacngaaLkF6
namespace Go.Proofs.Ytlfdefjkfacngaa.Lk
open Go.RowKit CM Nt
set_option linter.unusedVariables false
set_option linter.unusedSimpArgs false

set_option maxRecDepth 100000 in
set_option maxHeartbeats 4000000 in
theorem l12Take_any (s : ByteArray) (t : Int) (g : Bool) (A : Option Addr) (n c : Nat) (ls : List LK) (B : Nat) (w : World) (hn : ls.length = n) (hcp : n ≤ c) (h : LksB w B A ls) (hB : B ≤ w.heap.size) (hm : KSmall ls) :
    Calls Try.prog 76 #[.slice A n c, .agg #[.string s, .int .i64 t, .bool g]] w (KRPost (takeL ls (s, t, g)) w) := by
  obtain ⟨i0, hi0, hz0, hz1, hz2⟩ := info_parts infoLock
  have hb2 := below2 w (.cells #[.string s, .int .i64 t, .bool g] 27) (.cells #[] 27)
  have hkx := ((below1 (w.alloc (.cells #[.string s, .int .i64 t, .bool g] 27)) (.cells #[] 27)).block w.heap.size (by simp)).trans (heap_alloc_new w (.cells #[.string s, .int .i64 t, .bool g] 27))
  have HE := Lib.hid (own_empty (w.alloc (.cells #[.string s, .int .i64 t, .bool g] 27)) (w.heap.size + 1) 27 3 (by simp))
  have HSRC := Lib.hid (k_src (h.below (hb2.mono hB)) hn)
  have HLEN := Lib.hid (show ((ls.map lkCs).flatten).length = n * 3 by rw [flat_len (lkCs_len _), List.length_map, hn])
  have HONE := Lib.hid (lkCs_one ls)
  have HB2 := Lib.hid hb2
  have HN := Lib.hid hn
  have hge := Nat.le_of_eq hn
  have hle := Nat.le_of_eq hn.symm
  have hm1 := hm.1
  rw [hn] at hm1
  clear h hn hm hb2
  go_enter Try.func76, Try.ntmps76
  go_wp2_with (at_builtin; refine wpList_app rfl (.tmp 8) (.tmp 9) 24 rfl (w.heap.size + 1) 27 i0 _ 3 32 Try.underlying24 hi0 hz0 hz1 hz2 rfl (by decide) (.slice (some ⟨w.heap.size + 1, 0, none⟩) 0 0) 0 [] rfl (by simpa using HE.out) A n c ((ls.map lkCs).flatten) rfl HLEN.out HSRC.out HONE.out (by unfold maxLen; omega) (by omega) (by simp) ?_; intro v1 w1 hown1 hgr1 _; have hx := Own.ofRow (w := w1) (lo := w.heap.size + 1) (t := 27) (sz := 3) (n := n) (v := v1) (L := ls.map lkCs) (hi := w1.heap.size) (by simpa using hown1) (lkCs_len _) (by decide) (fun k hk => (hown1.lt k hk).2); obtain ⟨A1, c1, rfl, _, ho⟩ := hx; rw [List.length_map, HN.out]; have hb1 := HB2.out.grown hgr1 (by simp <;> omega) (fun k hk => by simp [Value.ownBlock] at hk; omega); have hk1 := (hgr1.block w.heap.size (by simp <;> omega) (by simp [Value.ownBlock])).trans hkx; have HB1 := Lib.hid hb1; have HK1 := Lib.hid hk1; have HO1 := Lib.hid (show OwnK w1 (w.heap.size + 1) w1.heap.size A1 c1 ls from ho); clear hown1 hgr1 ho hb1 hk1 hkx)
  have HTA := Lib.hid (fun k (hk : k < n) => take_at (x := (s, t, g)) (ls := ls) (k := k) (by omega))
  go_loopw [13] (fun i wr => ∃ k : Nat, k ≤ n ∧ i = .int .i64 k ∧ Hid ((ls.take k).any (heldB (s, t, g)) = false) ∧ Hid (Below w1.heap.size w1 wr)) (fun i _ => n - (intOf i).toNat)
  case atStart => exact ⟨0, by omega, rfl, Lib.hid rfl, Lib.hid (Below.refl _ _)⟩
  case round =>
    obtain ⟨k, hk, rfl, HP, HB⟩ := hrel
    have hkr := (HB.out.block w.heap.size (lt_blk HK1.out)).trans HK1.out
    have x0 := cell_blk (i := 0) hkr rfl
    have x1 := cell_blk (i := 1) hkr rfl
    have x2 := cell_blk (i := 2) hkr rfl
    have hlx := lt_blk hkr
    have hs1 := HB1.out.size
    by_cases hlt : k < n
    · obtain ⟨gg, rfl, hg1, hg2, hg3⟩ := HO1.out.at (by omega)
      obtain ⟨b9, off9, hA9, hb9, hc9⟩ := HO1.out.lks.get (by omega)
      injection hA9 with hA9
      injection hA9 with e1 e2
      subst e1 e2
      obtain ⟨v0, v1, v2⟩ := hc9 k (by omega)
      simp only [Nat.zero_add] at v0 v1 v2
      have c0 := (HB.out.cell (p := ⟨gg, k * 3, none⟩) hg3).trans v0
      have c1' := (HB.out.cell (p := ⟨gg, k * 3 + 1, none⟩) hg3).trans v1
      have c2 := (HB.out.cell (p := ⟨gg, k * 3 + 2, none⟩) hg3).trans v2
      have hk0 : (0 : Int) ≤ (k : Int) := by omega
      have hkn : (k : Int) < (n : Int) := by omega
      have HSU := Lib.hid (show heldB (s, t, g) (ls[k]'(by omega)) = false → (ls.take (k + 1)).any (heldB (s, t, g)) = false from fun h => by
        rw [List.take_succ_eq_append_getElem (by omega), List.any_append, HP.out]; simp [h])
      have HFIN := Lib.hid (fun k hk h1 h2 => take_at (x := (s, t, g)) (ls := ls) (k := k) hk h1 h2)
      obtain ⟨y, hy⟩ : ∃ y, y = ls[k]'(by omega) := ⟨_, rfl⟩
      have HYY := Lib.hid hy
      rw [← hy] at c0 c1' c2 v2
      obtain ⟨s', t', g'⟩ := y
      simp only at c0 c1' c2 v2
      have HBY := Lib.hid (below1 wr (.cells #[.string s', .int .i64 t', .bool g'] 27))
      clear v0 v1 hc9 hy hb9 hkr
      by_cases e1 : s' = s
      · subst e1
        by_cases e2 : t' = t
        · subst e2
          have HF := Lib.hid (HFIN.out k (by omega) HP.out (by rw [← HYY.out]; simp [heldB]))
          have HOX := Lib.hid (HO1.out.since HB.out (Nat.le_refl _))
          have HPW := Lib.hid (OwnK.putW HOX.out k (by omega) (g' || g))
          have fz := OwnK.free HOX.out (k * 3 + 2)
          have hszr := HB.out.size
          have HBF := Lib.hid (HB1.out.trans (HB.out.mono HB1.out.size))
          have HBS := Lib.hid (HBF.out.setCell (p := ⟨gg, k * 3 + 2, none⟩) (by simp; omega) (.bool (g' || g)))
          have HBT := Lib.hid (HBS.out.trans ((below1 (wr.setCell ⟨gg, k * 3 + 2, none⟩ (.bool (g' || g))) (.cells #[.string s', .int .i64 t', .bool g'] 27)).mono HBS.out.size))
          have HR := Lib.hid (show KRPost (takeL ls (s', t', g)) w (.returned (.slice (some ⟨gg, 0, none⟩) n c1)) ((wr.setCell ⟨gg, k * 3 + 2, none⟩ (.bool (g' || g))).alloc (.cells #[.string s', .int .i64 t', .bool g'] 27)) from by
            have e := HF.out
            rw [← HYY.out] at e
            have hp := HPW.out
            rw [← HYY.out] at hp
            rw [e]
            exact ⟨_, c1, by rw [List.length_set, HN.out], OwnK.wider (hp.since (below1 (wr.setCell ⟨gg, k * 3 + 2, none⟩ (.bool (g' || g))) (.cells #[.string s', .int .i64 t', .bool g'] 27)) (by simp [World.setCell]; omega)) (by omega) (by simp [World.setCell]; omega), HBT.out⟩)
          have hgs : gg < wr.heap.size := Nat.lt_of_lt_of_le hg3 HB.out.size
          clear v2
          cases g' with
          | true =>
            simp only [Bool.true_or] at HR
            go_wp2
            go_ret
            exact HR.out
          | false =>
            simp only [Bool.false_or] at HR
            go_wp2
            go_ret
            exact HR.out
        · have e2q : (t' == t) = false := by simp [e2]
          have HNE : ¬ t = t' := fun h => e2 h.symm
          have HG := Lib.hid (HSU.out (by rw [← HYY.out]; simp [heldB, HNE]))
          have HBX := Lib.hid (HB.out.trans (HBY.out.mono HB.out.size))
          go_wp2
          go_roundw
          case rel => exact ⟨k + 1, by omega, by go_num, HG, HBX⟩
          case measure => simp [intOf]; omega
      · have e1k := kne e1
        have HNE : ¬ s = s' := fun h => e1 h.symm
        have HG := Lib.hid (HSU.out (by rw [← HYY.out]; simp [heldB, HNE]))
        have HBX := Lib.hid (HB.out.trans (HBY.out.mono HB.out.size))
        go_wp2
        go_roundw
        case rel => exact ⟨k + 1, by omega, by go_num, HG, HBX⟩
        case measure => simp [intOf]; omega
    · have hkn : k = n := by omega
      subst hkn
      have HEN := Lib.hid (take_end (x := (s, t, g)) (ls := ls) (by have := HP.out; rwa [List.take_of_length_le (by omega)] at this))
      have HOR := Lib.hid (HO1.out.grow (hi := 0) HB.out)
      have HROL := Lib.hid (k_row HOR.out HN.out)
      have HOA := Lib.hid (OwnK.grow (hi := 0) HOR.out (below1 wr (.cells #[.string s, .int .i64 t, .bool g] 27)))
      have HROW := Lib.hid (k_row HOA.out HN.out)
      have HNEW := Lib.hid (heap_alloc_new wr (.cells #[.string s, .int .i64 t, .bool g] 27))
      have hsr := HB.out.size
      have HBR := Lib.hid (HB1.out.trans (HB.out.mono HB1.out.size))
      have HB22 := Lib.hid (Below.refl (w.heap.size + 1) wr)
      have hlx2 : w.heap.size + 1 ≤ (wr.alloc (.cells #[.string s, .int .i64 t, .bool g] 27)).heap.size := by simp; omega
      go_wp2_with (at_builtin; refine wpList_app rfl (.tmp 42) (.tmp 44) 24 rfl (w.heap.size + 1) 27 i0 _ 3 32 Try.underlying24 hi0 hz0 hz1 hz2 rfl (by decide) (.slice A1 k c1) k ((ls.map lkCs).flatten) rfl HROW.out (some ⟨wr.heap.size, 0, none⟩) 1 1 [.string s, .int .i64 t, .bool g] rfl rfl (fun _ => ⟨_, rfl, World.news_of_block (cs := #[.string s, .int .i64 t, .bool g]) (t := 27) (fr := (0, 0)) HNEW.out⟩) (by simp [Value.oneCell']) (by unfold maxLen; omega) (by omega) hlx2 ?_; intro v5 w5 hown hgr _; have hb5 := below_app HB22.out (by omega) HROL.out hgr; have HB5 := Lib.hid (HBR.out.trans (hb5.mono (by omega))); obtain ⟨A5, c5, rfl, ho5⟩ := k_snoc HN.out hown; have HF := Lib.hid (show KRPost (takeL ls (s, t, g)) w (.returned (.slice A5 (k + 1) c5)) w5 from ⟨A5, c5, by rw [HEN.out, List.length_append, HN.out]; rfl, by rw [HEN.out]; exact OwnK.wider ho5 (by omega) (Nat.le_refl _), HB5.out⟩); clear hown hgr ho5 hb5)
      go_ret
      exact HF.out

set_option maxRecDepth 100000 in
set_option maxHeartbeats 4000000 in
theorem specTakeLock_any (s : ByteArray) (t : Int) (g : Bool) (A : Option Addr) (n c : Nat) (ls : List LK) (B : Nat) (w : World) (hn : ls.length = n) (hcp : n ≤ c) (h : LksB w B A ls) (hB : B ≤ w.heap.size) (hm : KSmall ls) (hs : s.size ≤ 1048576) :
    Calls Try.prog 24 #[.slice A n c, .agg #[.string s, .int .i64 t, .bool g]] w (KAPost (takeA ls (s, t, g)) w) := by
  have HG := Lib.hid (fun W (hW : Below w.heap.size w W) => l12Good_any A n c ls B W hn hcp (h.below (hW.mono hB)) (Nat.le_trans hB hW.size) hm)
  have HL := Lib.hid (fun W => l12Lock_any s t g W hs)
  have HWW := Lib.hid (fun W (hW : Below w.heap.size w W) => l12Waits_any s t g A n c ls B W hn hcp (h.below (hW.mono hB)) (Nat.le_trans hB hW.size) hm)
  have HTT := Lib.hid (fun W (hW : Below w.heap.size w W) => l12Take_any s t g A n c ls B W hn hcp (h.below (hW.mono hB)) (Nat.le_trans hB hW.size) hm)
  unfold IRPost at HWW
  unfold KRPost at HTT
  have HB0 := Lib.hid (below1 w (.cells #[.string s, .int .i64 t, .bool g] 27))
  have hk0 := heap_alloc_new w (.cells #[.string s, .int .i64 t, .bool g] 27)
  have HWF := Lib.hid (waits_fold (l := ls) (x := (s, t, g)))
  have HWZ := Lib.hid (waits_zero (ls := ls) (x := (s, t, g)))
  have HTL := Lib.hid (show (takeL ls (s, t, g)).length ≤ ls.length + 1 by
    have : ∀ (l : List LK) (x : LK), (takeL l x).length ≤ l.length + 1 := by
      intro l x
      induction l with
      | nil => simp [takeL]
      | cons y l ih => unfold takeL; split <;> simp <;> omega
    exact this _ _)
  have hm1 := hm.1
  unfold takeA
  obtain ⟨r1, hr1⟩ : ∃ r, r = goodB ls := ⟨_, rfl⟩
  obtain ⟨r2, hr2⟩ : ∃ r, r = lkB (s, t, g) := ⟨_, rfl⟩
  rw [← hr1] at HG HWF
  rw [← hr2] at HL
  rw [← hr1, ← hr2]
  clear hr1 hr2 h hn hm
  cases r1 with
  | false =>
    go_enter Try.func24, Try.ntmps24
    go_wp2_with fail
    refine (HG.out _ HB0.out).mono ?_
    rintro e w1 ⟨rfl, hb1⟩
    have HB1 := Lib.hid (HB0.out.trans (hb1.mono HB0.out.size))
    have hk1 := (hb1.block w.heap.size (lt_blk hk0)).trans hk0
    have k10 : w1.cell? ⟨w.heap.size, 0, none⟩ = some (.string s) := cell_blk (i := 0) hk1 rfl
    have k11 : w1.cell? ⟨w.heap.size, 1, none⟩ = some (.int .i64 t) := cell_blk (i := 1) hk1 rfl
    have k12 : w1.cell? ⟨w.heap.size, 2, none⟩ = some (.bool g) := cell_blk (i := 2) hk1 rfl
    have kl1 := lt_blk hk1
    clear hb1
    go_wp2
    exact bodyPost_ret (v := .tuple #[.slice none 0 0, .bool false]) (by simp [results, Try.results24, go_sem]) rfl ⟨none, 0, rfl, own_nil _ _ _, HB1.out⟩
  | true =>
    cases r2 with
    | false =>
      go_enter Try.func24, Try.ntmps24
      go_wp2_with fail
      refine (HG.out _ HB0.out).mono ?_
      rintro e w1 ⟨rfl, hb1⟩
      have HB1 := Lib.hid (HB0.out.trans (hb1.mono HB0.out.size))
      have hk1 := (hb1.block w.heap.size (lt_blk hk0)).trans hk0
      have k10 : w1.cell? ⟨w.heap.size, 0, none⟩ = some (.string s) := cell_blk (i := 0) hk1 rfl
      have k11 : w1.cell? ⟨w.heap.size, 1, none⟩ = some (.int .i64 t) := cell_blk (i := 1) hk1 rfl
      have k12 : w1.cell? ⟨w.heap.size, 2, none⟩ = some (.bool g) := cell_blk (i := 2) hk1 rfl
      have kl1 := lt_blk hk1
      clear hb1
      go_wp2_with fail
      refine (HL.out _).mono ?_
      rintro e w2 ⟨rfl, hb2⟩
      have HB2 := Lib.hid (HB1.out.trans (hb2.mono HB1.out.size))
      have hk2 := (hb2.block w.heap.size (lt_blk hk1)).trans hk1
      have k20 : w2.cell? ⟨w.heap.size, 0, none⟩ = some (.string s) := cell_blk (i := 0) hk2 rfl
      have k21 : w2.cell? ⟨w.heap.size, 1, none⟩ = some (.int .i64 t) := cell_blk (i := 1) hk2 rfl
      have k22 : w2.cell? ⟨w.heap.size, 2, none⟩ = some (.bool g) := cell_blk (i := 2) hk2 rfl
      have kl2 := lt_blk hk2
      clear hb2
      go_wp2
      exact bodyPost_ret (v := .tuple #[.slice none 0 0, .bool false]) (by simp [results, Try.results24, go_sem]) rfl ⟨none, 0, rfl, own_nil _ _ _, HB2.out⟩
    | true =>
      have HWL := Lib.hid (show (foldI (txnsL ls (s, t, g))).length = (txnsL ls (s, t, g)).length by rw [HWF.out rfl, HWZ.out])
      obtain ⟨tl, htl⟩ : ∃ tl, tl = (txnsL ls (s, t, g)).length := ⟨_, rfl⟩
      obtain ⟨tm, htm⟩ : ∃ tm, tm = (takeL ls (s, t, g)).length := ⟨_, rfl⟩
      have HTM := Lib.hid htm.symm
      rw [← htl] at HWL
      have htmb := HTL.out
      rw [← htm] at htmb
      simp only [Bool.true_and, ← htl, ← htm]
      clear htl htm
      by_cases h0 : tl = 0
      · subst h0
        by_cases h6 : tm ≤ 60
        · have h6i : (tm : Int) ≤ 60 := by omega
          simp only [decide_true, Bool.true_and, h6, if_true]
          go_enter Try.func24, Try.ntmps24
          go_wp2_with fail
          refine (HG.out _ HB0.out).mono ?_
          rintro e w1 ⟨rfl, hb1⟩
          have HB1 := Lib.hid (HB0.out.trans (hb1.mono HB0.out.size))
          have hk1 := (hb1.block w.heap.size (lt_blk hk0)).trans hk0
          have k10 : w1.cell? ⟨w.heap.size, 0, none⟩ = some (.string s) := cell_blk (i := 0) hk1 rfl
          have k11 : w1.cell? ⟨w.heap.size, 1, none⟩ = some (.int .i64 t) := cell_blk (i := 1) hk1 rfl
          have k12 : w1.cell? ⟨w.heap.size, 2, none⟩ = some (.bool g) := cell_blk (i := 2) hk1 rfl
          have kl1 := lt_blk hk1
          clear hb1
          go_wp2_with fail
          refine (HL.out _).mono ?_
          rintro e w2 ⟨rfl, hb2⟩
          have HB2 := Lib.hid (HB1.out.trans (hb2.mono HB1.out.size))
          have hk2 := (hb2.block w.heap.size (lt_blk hk1)).trans hk1
          have k20 : w2.cell? ⟨w.heap.size, 0, none⟩ = some (.string s) := cell_blk (i := 0) hk2 rfl
          have k21 : w2.cell? ⟨w.heap.size, 1, none⟩ = some (.int .i64 t) := cell_blk (i := 1) hk2 rfl
          have k22 : w2.cell? ⟨w.heap.size, 2, none⟩ = some (.bool g) := cell_blk (i := 2) hk2 rfl
          have kl2 := lt_blk hk2
          clear hb2
          go_wp2_with fail
          refine (HWW.out _ HB2.out).mono ?_
          rintro e w3 ⟨A3, c3, rfl, ho3, hb3⟩
          have HB3 := Lib.hid (HB2.out.trans (hb3.mono HB2.out.size))
          have hk3 := (hb3.block w.heap.size (lt_blk hk2)).trans hk2
          have k30 : w3.cell? ⟨w.heap.size, 0, none⟩ = some (.string s) := cell_blk (i := 0) hk3 rfl
          have k31 : w3.cell? ⟨w.heap.size, 1, none⟩ = some (.int .i64 t) := cell_blk (i := 1) hk3 rfl
          have k32 : w3.cell? ⟨w.heap.size, 2, none⟩ = some (.bool g) := cell_blk (i := 2) hk3 rfl
          have kl3 := lt_blk hk3
          clear hb3
          rw [HWL.out]
          clear ho3
          go_wp2_with fail
          refine (HTT.out _ HB3.out).mono ?_
          rintro e w4 ⟨A4, c4, rfl, ho4, hb4⟩
          have HB4 := Lib.hid (HB3.out.trans (hb4.mono HB3.out.size))
          have hk4 := (hb4.block w.heap.size (lt_blk hk3)).trans hk3
          have k40 : w4.cell? ⟨w.heap.size, 0, none⟩ = some (.string s) := cell_blk (i := 0) hk4 rfl
          have k41 : w4.cell? ⟨w.heap.size, 1, none⟩ = some (.int .i64 t) := cell_blk (i := 1) hk4 rfl
          have k42 : w4.cell? ⟨w.heap.size, 2, none⟩ = some (.bool g) := cell_blk (i := 2) hk4 rfl
          have kl4 := lt_blk hk4
          clear hb4
          rw [HTM.out]
          clear ho4
          go_wp2_with fail
          refine (HTT.out _ HB4.out).mono ?_
          rintro e w5 ⟨A5, c5, rfl, ho5, hb5⟩
          have HF := Lib.hid (show KAPost (takeL ls (s, t, g), true) w (.returned (.tuple #[.slice A5 (takeL ls (s, t, g)).length c5, .bool true])) w5 from ⟨A5, c5, rfl, OwnK.wider ho5 HB4.out.size (Nat.le_refl _), HB4.out.trans (hb5.mono HB4.out.size)⟩)
          clear ho5 hb5
          go_wp2
          exact bodyPost_ret (v := .tuple #[.slice A5 (takeL ls (s, t, g)).length c5, .bool true]) (by simp [results, Try.results24, go_sem]) rfl HF.out
        · have h6i : (60 : Int) < (tm : Int) := by omega
          simp only [decide_true, Bool.true_and, h6, decide_false, Bool.false_eq_true, if_false]
          go_enter Try.func24, Try.ntmps24
          go_wp2_with fail
          refine (HG.out _ HB0.out).mono ?_
          rintro e w1 ⟨rfl, hb1⟩
          have HB1 := Lib.hid (HB0.out.trans (hb1.mono HB0.out.size))
          have hk1 := (hb1.block w.heap.size (lt_blk hk0)).trans hk0
          have k10 : w1.cell? ⟨w.heap.size, 0, none⟩ = some (.string s) := cell_blk (i := 0) hk1 rfl
          have k11 : w1.cell? ⟨w.heap.size, 1, none⟩ = some (.int .i64 t) := cell_blk (i := 1) hk1 rfl
          have k12 : w1.cell? ⟨w.heap.size, 2, none⟩ = some (.bool g) := cell_blk (i := 2) hk1 rfl
          have kl1 := lt_blk hk1
          clear hb1
          go_wp2_with fail
          refine (HL.out _).mono ?_
          rintro e w2 ⟨rfl, hb2⟩
          have HB2 := Lib.hid (HB1.out.trans (hb2.mono HB1.out.size))
          have hk2 := (hb2.block w.heap.size (lt_blk hk1)).trans hk1
          have k20 : w2.cell? ⟨w.heap.size, 0, none⟩ = some (.string s) := cell_blk (i := 0) hk2 rfl
          have k21 : w2.cell? ⟨w.heap.size, 1, none⟩ = some (.int .i64 t) := cell_blk (i := 1) hk2 rfl
          have k22 : w2.cell? ⟨w.heap.size, 2, none⟩ = some (.bool g) := cell_blk (i := 2) hk2 rfl
          have kl2 := lt_blk hk2
          clear hb2
          go_wp2_with fail
          refine (HWW.out _ HB2.out).mono ?_
          rintro e w3 ⟨A3, c3, rfl, ho3, hb3⟩
          have HB3 := Lib.hid (HB2.out.trans (hb3.mono HB2.out.size))
          have hk3 := (hb3.block w.heap.size (lt_blk hk2)).trans hk2
          have k30 : w3.cell? ⟨w.heap.size, 0, none⟩ = some (.string s) := cell_blk (i := 0) hk3 rfl
          have k31 : w3.cell? ⟨w.heap.size, 1, none⟩ = some (.int .i64 t) := cell_blk (i := 1) hk3 rfl
          have k32 : w3.cell? ⟨w.heap.size, 2, none⟩ = some (.bool g) := cell_blk (i := 2) hk3 rfl
          have kl3 := lt_blk hk3
          clear hb3
          rw [HWL.out]
          clear ho3
          go_wp2_with fail
          refine (HTT.out _ HB3.out).mono ?_
          rintro e w4 ⟨A4, c4, rfl, ho4, hb4⟩
          have HB4 := Lib.hid (HB3.out.trans (hb4.mono HB3.out.size))
          have hk4 := (hb4.block w.heap.size (lt_blk hk3)).trans hk3
          have k40 : w4.cell? ⟨w.heap.size, 0, none⟩ = some (.string s) := cell_blk (i := 0) hk4 rfl
          have k41 : w4.cell? ⟨w.heap.size, 1, none⟩ = some (.int .i64 t) := cell_blk (i := 1) hk4 rfl
          have k42 : w4.cell? ⟨w.heap.size, 2, none⟩ = some (.bool g) := cell_blk (i := 2) hk4 rfl
          have kl4 := lt_blk hk4
          clear hb4
          rw [HTM.out]
          clear ho4
          go_wp2
          exact bodyPost_ret (v := .tuple #[.slice none 0 0, .bool false]) (by simp [results, Try.results24, go_sem]) rfl ⟨none, 0, rfl, own_nil _ _ _, HB4.out⟩
      · have h0i : (0 : Int) < (tl : Int) := by omega
        simp only [h0, decide_false, Bool.false_and, Bool.false_eq_true, if_false]
        go_enter Try.func24, Try.ntmps24
        go_wp2_with fail
        refine (HG.out _ HB0.out).mono ?_
        rintro e w1 ⟨rfl, hb1⟩
        have HB1 := Lib.hid (HB0.out.trans (hb1.mono HB0.out.size))
        have hk1 := (hb1.block w.heap.size (lt_blk hk0)).trans hk0
        have k10 : w1.cell? ⟨w.heap.size, 0, none⟩ = some (.string s) := cell_blk (i := 0) hk1 rfl
        have k11 : w1.cell? ⟨w.heap.size, 1, none⟩ = some (.int .i64 t) := cell_blk (i := 1) hk1 rfl
        have k12 : w1.cell? ⟨w.heap.size, 2, none⟩ = some (.bool g) := cell_blk (i := 2) hk1 rfl
        have kl1 := lt_blk hk1
        clear hb1
        go_wp2_with fail
        refine (HL.out _).mono ?_
        rintro e w2 ⟨rfl, hb2⟩
        have HB2 := Lib.hid (HB1.out.trans (hb2.mono HB1.out.size))
        have hk2 := (hb2.block w.heap.size (lt_blk hk1)).trans hk1
        have k20 : w2.cell? ⟨w.heap.size, 0, none⟩ = some (.string s) := cell_blk (i := 0) hk2 rfl
        have k21 : w2.cell? ⟨w.heap.size, 1, none⟩ = some (.int .i64 t) := cell_blk (i := 1) hk2 rfl
        have k22 : w2.cell? ⟨w.heap.size, 2, none⟩ = some (.bool g) := cell_blk (i := 2) hk2 rfl
        have kl2 := lt_blk hk2
        clear hb2
        go_wp2_with fail
        refine (HWW.out _ HB2.out).mono ?_
        rintro e w3 ⟨A3, c3, rfl, ho3, hb3⟩
        have HB3 := Lib.hid (HB2.out.trans (hb3.mono HB2.out.size))
        have hk3 := (hb3.block w.heap.size (lt_blk hk2)).trans hk2
        have k30 : w3.cell? ⟨w.heap.size, 0, none⟩ = some (.string s) := cell_blk (i := 0) hk3 rfl
        have k31 : w3.cell? ⟨w.heap.size, 1, none⟩ = some (.int .i64 t) := cell_blk (i := 1) hk3 rfl
        have k32 : w3.cell? ⟨w.heap.size, 2, none⟩ = some (.bool g) := cell_blk (i := 2) hk3 rfl
        have kl3 := lt_blk hk3
        clear hb3
        rw [HWL.out]
        clear ho3
        go_wp2
        exact bodyPost_ret (v := .tuple #[.slice none 0 0, .bool false]) (by simp [results, Try.results24, go_sem]) rfl ⟨none, 0, rfl, own_nil _ _ _, HB3.out⟩
end Go.Proofs.Ytlfdefjkfacngaa.Lk
