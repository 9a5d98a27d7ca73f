/-
  Contracts for trimming: l3Trim, TrimCells of the model.
-/
import Derived.Test.YtcefofgdbmnkdaaTrim
namespace Go.Proofs.Ytcefofgdbmnkdaa
open Go.RowKit CM
set_option linter.unusedVariables false

theorem alloc_new2 (w : World) (o p q : Obj) : (((w.alloc o).alloc p).alloc q).heap[w.heap.size + 1 + 1]? = some q := by
  have := heap_alloc_new ((w.alloc o).alloc p) q
  simpa using this

set_option maxRecDepth 100000 in
set_option maxHeartbeats 4000000 in
theorem l3Trim_any (A : Option Addr) (n c : Nat) (hs : List (ByteArray × Option Addr × Nat × List (Int × ByteArray × Bool))) (f : Int) (B : Nat) (w : World) (hn : hs.length = n) (h : CellsB w B A hs) (hB : B ≤ w.heap.size) (hm : HSmall hs) :
    Calls Try.prog 82 #[.slice A n c, .int .i64 f] w (TrPost (trimC f (hs.map dat)) w) := by
  obtain ⟨i0, hi, hz0, hz1, hz2⟩ := info_parts infoCell
  obtain ⟨j0, hj, hy0, hy1, hy2⟩ := info_parts infoVer
  have HN := Lib.hid hn
  have hge := Nat.le_of_eq hn
  have hle := Nat.le_of_eq hn.symm
  have hnl : n ≤ 1048576 := by rw [← hn]; exact hm.1
  have HS := Lib.hid h
  have HM := Lib.hid hm.2
  obtain ⟨cs, hcs⟩ : ∃ cs, cs = hs.map dat := ⟨_, rfl⟩
  have HCS := Lib.hid hcs
  have hcl : cs.length = n := by rw [hcs, List.length_map, hn]
  rw [← hcs]
  clear hn h hcs
  go_enter Try.func82, Try.ntmps82
  go_wp2
  go_loopw [5, 14] (fun v i wr => ∃ k : Nat, k ≤ n ∧ i = .int .i64 k ∧ TrimRel cs f w k v wr) (fun _ i _ => n - (intOf i).toNat)
  case atStart => exact ⟨0, by omega, rfl, TrimRel.start _ _ _⟩
  case round =>
    rename World => wo
    obtain ⟨k, hk, rfl, hr⟩ := hrel
    by_cases hlt : k < n
    · obtain ⟨gs, hgd, hrc, hb⟩ := hr
      obtain ⟨b, off, rfl, hbB, hc⟩ := HS.out.get (by omega)
      obtain ⟨hc0, hc1⟩ := hc k (by omega)
      have c0 := (hb.cell (p := ⟨b, off + k * 2, none⟩) (Nat.lt_of_lt_of_le hbB hB)).trans hc0
      have c1 := (hb.cell (p := ⟨b, off + k * 2 + 1, none⟩) (Nat.lt_of_lt_of_le hbB hB)).trans hc1
      have hv := (HS.out.vers k (by omega)).below (hb.mono hB)
      have hsm := (HM.out _ (List.getElem_mem (show k < hs.length by omega))).2.1
      have hck : cs[k]'(by omega) = dat (hs[k]'(by omega)) := by simp [HCS.out]
      obtain ⟨y, hy⟩ : ∃ y, y = hs[k]'(by omega) := ⟨_, rfl⟩
      rw [← hy] at c0 c1 hv hsm hck
      obtain ⟨s1, ad, cp, vs⟩ := y
      simp only [dat] at c0 c1 hv hsm hck
      have HCK := Lib.hid hck
      have hw1 := below1 wo (.cells #[.string s1, .slice ad vs.length cp] 81)
      have hbx := heap_alloc_new wo (.cells #[.string s1, .slice ad vs.length cp] 81)
      have x0 := cell_blk (i := 0) hbx rfl
      have x1 := cell_blk (i := 1) hbx rfl
      have hws : wo.heap.size < (wo.alloc (.cells #[.string s1, .slice ad vs.length cp] 81)).heap.size := by simp
      have HWS := Lib.hid (show (wo.alloc (.cells #[.string s1, .slice ad vs.length cp] 81)).heap.size = wo.heap.size + 1 by simp)
      have HW1 := Lib.hid hw1
      have HB := Lib.hid hb
      have HRC := Lib.hid hrc
      have HGD := Lib.hid hgd
      have hvB : Hid (VersB (wo.alloc (.cells #[.string s1, .slice ad vs.length cp] 81)) B ad vs) := hv.below (hw1.mono (Nat.le_trans hB hb.size))
      have hBW := Nat.le_trans hB (Nat.le_trans hb.size hw1.size)
      obtain ⟨ws, hwse⟩ : ∃ ws, ws = wo.alloc (.cells #[.string s1, .slice ad vs.length cp] 81) := ⟨_, rfl⟩
      have HWE := Lib.hid hwse
      have HX := Lib.hid (show ws.cell? ⟨wo.heap.size, 0, none⟩ = some (.string s1) ∧ ws.cell? ⟨wo.heap.size, 1, none⟩ = some (.slice ad vs.length cp) from by rw [hwse]; exact ⟨x0, x1⟩)
      rw [← hwse] at hws HWS HW1 hvB hBW
      clear hc hc0 hc1 hy hb hv hck hw1 hrc hbx hgd hwse
      go_wp2
      rw [← HWE.out]
      go_loopw [8, 21] (fun v8 i wi => ∃ q : Nat, q ≤ vs.length ∧ i = .int .i64 q ∧ InRel f vs ws q v8 wi) (fun _ i _ => vs.length - (intOf i).toNat)
      case atStart => exact ⟨0, by omega, rfl, InRel.start _ _ _⟩
      case round =>
        obtain ⟨q, hq, rfl, hir⟩ := hrel
        have hb' := hir.2
        have z0 := (hb'.cell (p := ⟨wo.heap.size, 0, none⟩) hws).trans HX.out.1
        have z1 := (hb'.cell (p := ⟨wo.heap.size, 1, none⟩) hws).trans HX.out.2
        have hwo : wo.heap.size < wr.heap.size := Nat.lt_of_lt_of_le hws hb'.size
        by_cases hql : q < vs.length
        · obtain ⟨fb, fo, rfl, hfB, hg⟩ := hvB.out.get (by omega)
          have hfw := Nat.lt_of_lt_of_le hfB hBW
          have hfr : fb < wr.heap.size := Nat.lt_of_lt_of_le hfw hb'.size
          obtain ⟨d0, d1, d2⟩ := hg q hql
          have e0 := (hb'.cell (p := ⟨fb, fo + q * 3, none⟩) hfw).trans d0
          have e1 := (hb'.cell (p := ⟨fb, fo + q * 3 + 1, none⟩) hfw).trans d1
          have e2 := (hb'.cell (p := ⟨fb, fo + q * 3 + 2, none⟩) hfw).trans d2
          have HG := Lib.hid hg
          obtain ⟨y, hy⟩ : ∃ y, y = vs[q]'hql := ⟨_, rfl⟩
          have HY0 := Lib.hid hy
          rw [← hy] at e0 e1 e2
          obtain ⟨t, s, g⟩ := y
          simp only at e0 e1 e2
          have HY := Lib.hid (show vs[q]'hql = (t, s, g) from hy.symm)
          have hwv := below1 wr (.cells #[.int .i64 t, .string s, .bool g] 83)
          have hnw := alloc_snd wr (.cells #[.int .i64 t, .string s, .bool g] 83) (.cells #[.int .i64 t, .string s, .bool g] 83)
          have hown := row_below hir.1 hwv
          have hal := accV_len f vs q
          have HIR := Lib.hid hir
          have hsm1 := hsm
          have hq0 : (0 : Int) ≤ (q : Int) := by omega
          have hqi : (q : Int) < (vs.length : Int) := by omega
          by_cases hnx : q + 1 < vs.length
          · have e3 := (hb'.cell (p := ⟨fb, fo + (q + 1) * 3, none⟩) hfw).trans (HG.out (q + 1) hnx).1
            have hkp := keepV_at f vs q hnx
            rw [HY.out] at hkp
            obtain ⟨t2, ht2⟩ : ∃ t2, t2 = (vs[q + 1]'hnx).1 := ⟨_, rfl⟩
            rw [← ht2] at e3 hkp
            have HKP := Lib.hid hkp
            have hnxi : (q : Int) + 1 < (vs.length : Int) := by omega
            have hq1 : (0 : Int) ≤ (q : Int) + 1 := by omega
            clear hir hb' hg d0 d1 d2 hy ht2 hkp
            by_cases h1 : f < t
            · by_cases h2 : t2 ≤ f
              · cases g
                · have HK := Lib.hid (show keepV f vs q = true from by rw [HKP.out]; simp [h1, h2])
                  go_wp2_with (at_builtin; refine wpList_append_own _ rfl (.tmp 56) (.tmp 58) 79 rfl ws.heap.size 83 j0 _ 3 32 Try.underlying79 hj hy0 hy1 hy2 rfl (by decide) _ _ _ rfl (hown.alloc _) ⟨_, 0, none⟩ 1 1 [.int .i64 t, .string s, .bool false] rfl rfl (World.news_of_block (fr := (0, 0)) hnw) (by simp [Value.oneCell']) (by unfold maxLen; omega) (by omega) (by have := HIR.out.2.size; simp; omega) ?_; intro v3 w3 hown3 hg3 _)
                  have HMO := Lib.hid (HIR.out.more (x := (t, s, false)) hql HY.out HK.out hwv hg3 hown3)
                  go_roundw
                  case rel => exact ⟨q + 1, by omega, by go_num, HMO.out⟩
                  case measure => simp [intOf]; omega
                · have HK := Lib.hid (show keepV f vs q = true from by rw [HKP.out]; simp [h1, h2])
                  go_wp2_with (at_builtin; refine wpList_append_own _ rfl (.tmp 56) (.tmp 58) 79 rfl ws.heap.size 83 j0 _ 3 32 Try.underlying79 hj hy0 hy1 hy2 rfl (by decide) _ _ _ rfl (hown.alloc _) ⟨_, 0, none⟩ 1 1 [.int .i64 t, .string s, .bool true] rfl rfl (World.news_of_block (fr := (0, 0)) hnw) (by simp [Value.oneCell']) (by unfold maxLen; omega) (by omega) (by have := HIR.out.2.size; simp; omega) ?_; intro v3 w3 hown3 hg3 _)
                  have HMO := Lib.hid (HIR.out.more (x := (t, s, true)) hql HY.out HK.out hwv hg3 hown3)
                  go_roundw
                  case rel => exact ⟨q + 1, by omega, by go_num, HMO.out⟩
                  case measure => simp [intOf]; omega
              · cases g
                · have HK := Lib.hid (show keepV f vs q = true from by rw [HKP.out]; simp [h1, h2])
                  go_wp2_with (at_builtin; refine wpList_append_own _ rfl (.tmp 56) (.tmp 58) 79 rfl ws.heap.size 83 j0 _ 3 32 Try.underlying79 hj hy0 hy1 hy2 rfl (by decide) _ _ _ rfl (hown.alloc _) ⟨_, 0, none⟩ 1 1 [.int .i64 t, .string s, .bool false] rfl rfl (World.news_of_block (fr := (0, 0)) hnw) (by simp [Value.oneCell']) (by unfold maxLen; omega) (by omega) (by have := HIR.out.2.size; simp; omega) ?_; intro v3 w3 hown3 hg3 _)
                  have HMO := Lib.hid (HIR.out.more (x := (t, s, false)) hql HY.out HK.out hwv hg3 hown3)
                  go_roundw
                  case rel => exact ⟨q + 1, by omega, by go_num, HMO.out⟩
                  case measure => simp [intOf]; omega
                · have HK := Lib.hid (show keepV f vs q = true from by rw [HKP.out]; simp [h1, h2])
                  go_wp2_with (at_builtin; refine wpList_append_own _ rfl (.tmp 56) (.tmp 58) 79 rfl ws.heap.size 83 j0 _ 3 32 Try.underlying79 hj hy0 hy1 hy2 rfl (by decide) _ _ _ rfl (hown.alloc _) ⟨_, 0, none⟩ 1 1 [.int .i64 t, .string s, .bool true] rfl rfl (World.news_of_block (fr := (0, 0)) hnw) (by simp [Value.oneCell']) (by unfold maxLen; omega) (by omega) (by have := HIR.out.2.size; simp; omega) ?_; intro v3 w3 hown3 hg3 _)
                  have HMO := Lib.hid (HIR.out.more (x := (t, s, true)) hql HY.out HK.out hwv hg3 hown3)
                  go_roundw
                  case rel => exact ⟨q + 1, by omega, by go_num, HMO.out⟩
                  case measure => simp [intOf]; omega
            · by_cases h2 : t2 ≤ f
              · cases g
                · have HK := Lib.hid (show keepV f vs q = false from by rw [HKP.out]; simp [h1, h2])
                  have HSK := Lib.hid (HIR.out.skip hql HK.out hwv)
                  go_wp2
                  go_roundw
                  case rel => exact ⟨q + 1, by omega, by go_num, HSK.out⟩
                  case measure => simp [intOf]; omega
                · have HK := Lib.hid (show keepV f vs q = false from by rw [HKP.out]; simp [h1, h2])
                  have HSK := Lib.hid (HIR.out.skip hql HK.out hwv)
                  go_wp2
                  go_roundw
                  case rel => exact ⟨q + 1, by omega, by go_num, HSK.out⟩
                  case measure => simp [intOf]; omega
              · cases g
                · have HK := Lib.hid (show keepV f vs q = true from by rw [HKP.out]; simp [h1, h2])
                  go_wp2_with (at_builtin; refine wpList_append_own _ rfl (.tmp 56) (.tmp 58) 79 rfl ws.heap.size 83 j0 _ 3 32 Try.underlying79 hj hy0 hy1 hy2 rfl (by decide) _ _ _ rfl (hown.alloc _) ⟨_, 0, none⟩ 1 1 [.int .i64 t, .string s, .bool false] rfl rfl (World.news_of_block (fr := (0, 0)) hnw) (by simp [Value.oneCell']) (by unfold maxLen; omega) (by omega) (by have := HIR.out.2.size; simp; omega) ?_; intro v3 w3 hown3 hg3 _)
                  have HMO := Lib.hid (HIR.out.more (x := (t, s, false)) hql HY.out HK.out hwv hg3 hown3)
                  go_roundw
                  case rel => exact ⟨q + 1, by omega, by go_num, HMO.out⟩
                  case measure => simp [intOf]; omega
                · have HK := Lib.hid (show keepV f vs q = false from by rw [HKP.out]; simp [h1, h2])
                  have HSK := Lib.hid (HIR.out.skip hql HK.out hwv)
                  go_wp2
                  go_roundw
                  case rel => exact ⟨q + 1, by omega, by go_num, HSK.out⟩
                  case measure => simp [intOf]; omega
          · have hkp := keepV_last f vs q (by omega)
            rw [HY.out] at hkp
            have HKP := Lib.hid hkp
            have hnxi : ¬ (q : Int) + 1 < (vs.length : Int) := by omega
            clear hir hb' hg d0 d1 d2 hy hkp
            by_cases h1 : f < t
            · cases g
              · have HK := Lib.hid (show keepV f vs q = true from by rw [HKP.out]; simp [h1])
                go_wp2_with (at_builtin; refine wpList_append_own _ rfl (.tmp 56) (.tmp 58) 79 rfl ws.heap.size 83 j0 _ 3 32 Try.underlying79 hj hy0 hy1 hy2 rfl (by decide) _ _ _ rfl (hown.alloc _) ⟨_, 0, none⟩ 1 1 [.int .i64 t, .string s, .bool false] rfl rfl (World.news_of_block (fr := (0, 0)) hnw) (by simp [Value.oneCell']) (by unfold maxLen; omega) (by omega) (by have := HIR.out.2.size; simp; omega) ?_; intro v3 w3 hown3 hg3 _)
                have HMO := Lib.hid (HIR.out.more (x := (t, s, false)) hql HY.out HK.out hwv hg3 hown3)
                go_roundw
                case rel => exact ⟨q + 1, by omega, by go_num, HMO.out⟩
                case measure => simp [intOf]; omega
              · have HK := Lib.hid (show keepV f vs q = true from by rw [HKP.out]; simp [h1])
                go_wp2_with (at_builtin; refine wpList_append_own _ rfl (.tmp 56) (.tmp 58) 79 rfl ws.heap.size 83 j0 _ 3 32 Try.underlying79 hj hy0 hy1 hy2 rfl (by decide) _ _ _ rfl (hown.alloc _) ⟨_, 0, none⟩ 1 1 [.int .i64 t, .string s, .bool true] rfl rfl (World.news_of_block (fr := (0, 0)) hnw) (by simp [Value.oneCell']) (by unfold maxLen; omega) (by omega) (by have := HIR.out.2.size; simp; omega) ?_; intro v3 w3 hown3 hg3 _)
                have HMO := Lib.hid (HIR.out.more (x := (t, s, true)) hql HY.out HK.out hwv hg3 hown3)
                go_roundw
                case rel => exact ⟨q + 1, by omega, by go_num, HMO.out⟩
                case measure => simp [intOf]; omega
            · cases g
              · have HK := Lib.hid (show keepV f vs q = true from by rw [HKP.out]; simp [h1])
                go_wp2_with (at_builtin; refine wpList_append_own _ rfl (.tmp 56) (.tmp 58) 79 rfl ws.heap.size 83 j0 _ 3 32 Try.underlying79 hj hy0 hy1 hy2 rfl (by decide) _ _ _ rfl (hown.alloc _) ⟨_, 0, none⟩ 1 1 [.int .i64 t, .string s, .bool false] rfl rfl (World.news_of_block (fr := (0, 0)) hnw) (by simp [Value.oneCell']) (by unfold maxLen; omega) (by omega) (by have := HIR.out.2.size; simp; omega) ?_; intro v3 w3 hown3 hg3 _)
                have HMO := Lib.hid (HIR.out.more (x := (t, s, false)) hql HY.out HK.out hwv hg3 hown3)
                go_roundw
                case rel => exact ⟨q + 1, by omega, by go_num, HMO.out⟩
                case measure => simp [intOf]; omega
              · have HK := Lib.hid (show keepV f vs q = false from by rw [HKP.out]; simp [h1])
                have HSK := Lib.hid (HIR.out.skip hql HK.out hwv)
                go_wp2
                go_roundw
                case rel => exact ⟨q + 1, by omega, by go_num, HSK.out⟩
                case measure => simp [intOf]; omega
        · have hqn : q = vs.length := by omega
          subst hqn
          obtain ⟨A8, c8, rfl, ho8, hb8⟩ := hir.done
          have hbo := HW1.out.trans (hb8.mono HW1.out.size)
          have HBO := Lib.hid hbo
          have HO8 := Lib.hid (ho8.wider (lo' := wo.heap.size) (hi' := wr.heap.size) HW1.out.size (Nat.le_refl _))
          clear hir hb' ho8 hb8 hq hql
          by_cases hz : 0 < (trimV f vs).length
          · have hnw := heap_alloc_new wr (.cells #[.string s1, .slice A8 (trimV f vs).length c8] 81)
            have hown := row_below HRC.out.1 hbo
            have hgl : gs.length ≤ k := by
              have e := congrArg List.length HGD.out
              rw [List.length_map] at e
              have := trimC_len f (cs.take k)
              rw [List.length_take] at this
              omega
            clear hbo
            go_wp2_with (at_builtin; refine wpList_append_own _ rfl (.tmp 64) (.tmp 69) 24 rfl w.heap.size 81 i0 _ 2 40 Try.underlying24 hi hz0 hz1 hz2 rfl (by decide) _ _ _ rfl (hown.alloc _) ⟨_, 0, none⟩ 1 1 [.string s1, .slice A8 (trimV f vs).length c8] rfl rfl (World.news_of_block (fr := (0, 0)) hnw) (by simp [Value.oneCell']) (by unfold maxLen; omega) (by omega) (by have := HB.out.size; have := HBO.out.size; simp; omega) ?_; intro v3 w3 hown3 hg3 _)
            have HMO := Lib.hid (TrimRel.more HGD.out HRC.out HB.out (show k < cs.length by omega) HCK.out hz HBO.out HO8.out hg3 hown3)
            go_roundw
            case rel => exact ⟨k + 1, by omega, by go_num, HMO.out⟩
            case measure => simp [intOf]; omega
          · have HTR := Lib.hid (show TrimRel cs f w k u5 wo from ⟨gs, HGD.out, HRC.out, HB.out⟩)
            have HSK := Lib.hid (HTR.out.skip (show k < cs.length by omega) HCK.out (by omega) hbo)
            clear hbo
            go_wp2
            go_roundw
            case rel => exact ⟨k + 1, by omega, by go_num, HSK.out⟩
            case measure => simp [intOf]; omega
    · have hkn : k = n := by omega
      subst hkn
      rw [← hcl] at hr
      obtain ⟨A', c', gs, hv', hpost⟩ := hr.done
      injection hv' with hv'
      subst hv'
      have HP := Lib.hid hpost
      clear hr hpost
      go_wp2
      go_ret
      exact ⟨A', c', gs, rfl, HP.out⟩
end Go.Proofs.Ytcefofgdbmnkdaa
