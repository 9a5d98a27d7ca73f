/-
  slices.Sort on a row of numbers of the call's own; the program's WaitsFor.
-/
import Derived.Test.YtlfdefjkfacngaaLkF4
import Derived.Test.YtlfdefjkfacngaaShelf
namespace Go.Proofs.Ytlfdefjkfacngaa.Lk
open Go.RowKit CM Nt
set_option linter.unusedVariables false
set_option linter.unusedSimpArgs false

section
open Go.Sort
theorem sorted_heap {w : World} {g n : Nat} {os : Array Obj} {cur : Array Value} {e : TypeId} (d : Array Int) (hb : w.heap[g]? = some (.cells cur e (0, 0))) :
    (grow (putRow (Value.int .i64) (Sort.ahead w n) g 0 d) os).heap[g]? = some (.cells (putCells (Value.int .i64) 0 d cur) e (0, 0)) := by
  rw [heap_grow_old _ _ (by simpa using lt_blk hb)]
  simp [putRow, mapBlock, Sort.ahead, Array.getElem?_modify, hb, onCells]
theorem sorted_grown {w : World} {g n : Nat} {os : Array Obj} (d : Array Int) : w.grownBy (grow (putRow (Value.int .i64) (Sort.ahead w n) g 0 d) os) (some g) := by
  refine ⟨rfl, rfl, rfl, by simp, fun k hk hne => ?_⟩
  rw [heap_grow_old _ _ (by simpa using hk)]
  have hgk : g ≠ k := fun e => hne (by rw [e])
  simp [putRow, mapBlock, Sort.ahead, Array.getElem?_modify, hgk]
/-- Sorting a row of the call's own. -/
theorem sortI_own {w : World} {lo c : Nat} {A : Option Addr} {xs : List Int} (h : OwnI w lo w.heap.size A c xs) (hlo : lo ≤ w.heap.size) (hl : xs.length ≤ 1000000) :
    Calls Try.prog 67 #[.slice A xs.length c] w fun e w' => e = .returned (.tuple #[]) ∧ OwnI w' lo w'.heap.size A c (sortI xs) ∧ Below lo w w' := by
  rcases h with ⟨h0, rfl, rfl⟩ | ⟨g, cur, rfl, h1, h2, h3, h4, h5, h6, h7⟩
  · rw [List.map_eq_nil_iff] at h0
    subst h0
    refine (Try.slices_Sort_int_none none 0 w).mono ?_
    rintro e w' ⟨rfl, rfl⟩
    exact ⟨rfl, .inl ⟨by simp [sortI], rfl, rfl⟩, Below.refl _ _⟩
  · rw [List.length_map] at h4
    have hH : Holds (Value.int .i64) w g 0 xs.toArray := by
      intro j hj
      have hj' : j < xs.length := by simpa using hj
      have e := h7 j (by simpa using hj') 0 (by omega)
      rw [Nat.mul_one, Nat.add_zero] at e
      refine ⟨?_, free_blk h3 _⟩
      rw [Nat.zero_add, cell_of_row w g j cur _ (0, 0) h3, e]
      simp [intCs, hj']
    refine (Try.slices_Sort_int g 0 c xs w hH h2 (by omega)).mono ?_
    rintro e w' ⟨rfl, n, os, rfl⟩
    have hg := sorted_grown (w := w) (g := g) (n := n) (os := os) (xs.mergeSort fun x y => decide (x ≤ y)).toArray
    refine ⟨rfl, .inr ⟨g, _, rfl, h1, Nat.lt_of_lt_of_le h2 hg.size, sorted_heap _ h3, ?_, h5, by simp [putCells, h6], fun j hj i hi => ?_⟩, (Below.refl lo w).grown hg hlo (fun k hk => by injection hk with hk; omega)⟩
    · rw [List.length_map, sortI_len]; exact h4
    · have hi0 : i = 0 := by omega
      subst hi0
      have hj' : j < (sortI xs).length := by simpa using hj
      have hj2 := hj'
      rw [sortI_len] at hj2
      have hz : j < cur.size := by rw [h6]; omega
      simp [putCells, intCs, hz, sortI, hj2]
end

theorem map_snoc {L : List LK} {k : Nat} (hk : k < L.length) : (L.take (k + 1)).map (fun y => y.2.1) = (L.take k).map (fun y => y.2.1) ++ [L[k].2.1] := by
  rw [List.take_succ_eq_append_getElem hk, List.map_append]; rfl
theorem below_drewL {X V : World} (hb : Below X.drew.heap.size X.drew V) : Below X.heap.size X V := by
  have h0 : Below X.heap.size X X.drew := (Below.refl _ _).drew
  exact h0.trans (hb.mono h0.size)
set_option maxRecDepth 100000 in
set_option maxHeartbeats 8000000 in
theorem implWaitsFor_any (s : ByteArray) (t : Int) (g : Bool) (A : Option Addr) (n c : Nat) (ls : List LK) (B : Nat) (w : World) (hn : ls.length = n) (hcp : n ≤ c) (h : LksB w B A ls) (hB : B ≤ w.heap.size) (hm : KSmall ls) (hs : s.size ≤ 1048576) :
    Calls Try.prog 16 #[.slice A n c, .agg #[.string s, .int .i64 t, .bool g]] w (IAPost (waitA ls (s, t, g)) w) := by
  obtain ⟨i0, hi0, hz0, hz1, hz2⟩ := info_parts infoInt
  have HG := Lib.hid (fun W (hW : Below w.heap.size w W) => implGoodLocks_any A n c ls B W hn hcp (h.below (hW.mono hB)) (Nat.le_trans hB hW.size) hm)
  have HL := Lib.hid (fun W => goodLock_any s t g W hs)
  have HTB := Lib.hid (fun W => lockTable_any A n c W)
  have HW := Lib.hid (fun W (hW : Below w.heap.size w W) => whereCf_any s t g A n c ls B W hn hcp (h.below (hW.mono hB)) (Nat.le_trans hB hW.size) hm)
  have HB0 := Lib.hid (below1 w (.cells #[.string s, .int .i64 t, .bool g] 27))
  have hk0 := heap_alloc_new w (.cells #[.string s, .int .i64 t, .bool g] 27)
  have HLN := Lib.hid (show goodB ls = true → (ls.filter (clashB (s, t, g))).length ≤ 60 from fun h => Nat.le_trans (List.length_filter_le _ _) (good_free h).1)
  have hwl : waitsL ls (s, t, g) = sortI ((ls.filter (clashB (s, t, g))).map fun y => y.2.1) := rfl
  unfold waitA
  rw [hwl]
  obtain ⟨r1, hr1⟩ : ∃ r, r = goodB ls := ⟨_, rfl⟩
  obtain ⟨r2, hr2⟩ : ∃ r, r = lkB (s, t, g) := ⟨_, rfl⟩
  rw [← hr1] at HG HLN
  rw [← hr2] at HL
  rw [← hr1, ← hr2]
  clear hr1 hr2 h hn hm hwl
  cases r1 with
  | false =>
    go_enter Try.func16, Try.ntmps16
    go_wp2_with fail
    refine (HG.out _ HB0.out).mono ?_
    rintro e w1 ⟨rfl, hb1⟩
    have HB1 := Lib.hid (HB0.out.trans (hb1.mono HB0.out.size))
    have hk1 := (hb1.block w.heap.size (lt_blk hk0)).trans hk0
    have y0 := cell_blk (i := 0) hk1 rfl
    have y1 := cell_blk (i := 1) hk1 rfl
    have y2 := cell_blk (i := 2) hk1 rfl
    have yl := lt_blk hk1
    clear hb1
    go_wp2
    exact bodyPost_ret (v := .tuple #[.slice none 0 0, .bool false]) (by simp [results, Try.results16, go_sem]) rfl ⟨none, 0, rfl, i_nil _ _ _, HB1.out⟩
  | true =>
    cases r2 with
    | false =>
      go_enter Try.func16, Try.ntmps16
      go_wp2_with fail
      refine (HG.out _ HB0.out).mono ?_
      rintro e w1 ⟨rfl, hb1⟩
      have HB1 := Lib.hid (HB0.out.trans (hb1.mono HB0.out.size))
      have hk1 := (hb1.block w.heap.size (lt_blk hk0)).trans hk0
      have y0 := cell_blk (i := 0) hk1 rfl
      have y1 := cell_blk (i := 1) hk1 rfl
      have y2 := cell_blk (i := 2) hk1 rfl
      have yl := lt_blk hk1
      clear hb1
      go_wp2_with fail
      refine (HL.out _).mono ?_
      rintro e w2 ⟨rfl, hb2⟩
      have HB2 := Lib.hid (HB1.out.trans (hb2.mono HB1.out.size))
      have hk2 := (hb2.block w.heap.size yl).trans hk1
      have z0 : w2.cell? ⟨w.heap.size, 0, none⟩ = some (.string s) := cell_blk (i := 0) hk2 rfl
      have z1 : w2.cell? ⟨w.heap.size, 1, none⟩ = some (.int .i64 t) := cell_blk (i := 1) hk2 rfl
      have z2 : w2.cell? ⟨w.heap.size, 2, none⟩ = some (.bool g) := cell_blk (i := 2) hk2 rfl
      have zl := lt_blk hk2
      clear hb2 y0 y1 y2
      go_wp2
      exact bodyPost_ret (v := .tuple #[.slice none 0 0, .bool false]) (by simp [results, Try.results16, go_sem]) rfl ⟨none, 0, rfl, i_nil _ _ _, HB2.out⟩
    | true =>
      have hfl := HLN.out rfl
      obtain ⟨FL, hFL⟩ : ∃ FL, FL = ls.filter (clashB (s, t, g)) := ⟨_, rfl⟩
      rw [← hFL] at hfl HW
      simp only [Bool.and_self, if_true]
      rw [← hFL]
      clear hFL HLN
      obtain ⟨q, hq⟩ : ∃ q, q = FL.length := ⟨_, rfl⟩
      rw [← hq] at hfl
      have HQ := Lib.hid hq.symm
      unfold KRPost at HW
      rw [← hq] at HW
      clear hq
      go_enter Try.func16, Try.ntmps16
      go_wp2_with fail
      refine (HG.out _ HB0.out).mono ?_
      rintro e w1 ⟨rfl, hb1⟩
      have HB1 := Lib.hid (HB0.out.trans (hb1.mono HB0.out.size))
      have hk1 := (hb1.block w.heap.size (lt_blk hk0)).trans hk0
      have y0 := cell_blk (i := 0) hk1 rfl
      have y1 := cell_blk (i := 1) hk1 rfl
      have y2 := cell_blk (i := 2) hk1 rfl
      have yl := lt_blk hk1
      clear hb1
      go_wp2_with fail
      refine (HL.out _).mono ?_
      rintro e w2 ⟨rfl, hb2⟩
      have HB2 := Lib.hid (HB1.out.trans (hb2.mono HB1.out.size))
      have hk2 := (hb2.block w.heap.size yl).trans hk1
      have z0 : w2.cell? ⟨w.heap.size, 0, none⟩ = some (.string s) := cell_blk (i := 0) hk2 rfl
      have z1 : w2.cell? ⟨w.heap.size, 1, none⟩ = some (.int .i64 t) := cell_blk (i := 1) hk2 rfl
      have z2 : w2.cell? ⟨w.heap.size, 2, none⟩ = some (.bool g) := cell_blk (i := 2) hk2 rfl
      have zl := lt_blk hk2
      clear hb2 y0 y1 y2
      have hbel := Below.refl w2.heap.size w2
      have HS0 : w2.drew.cell? ⟨w.heap.size, 0, none⟩ = some (.string s) ∧ w2.drew.cell? ⟨w.heap.size, 1, none⟩ = some (.int .i64 t) ∧ w2.drew.cell? ⟨w.heap.size, 2, none⟩ = some (.bool g) := ⟨z0, z1, z2⟩
      go_wp2_with fail
      go_region_held3 (fun w' => w'.cell? ⟨w.heap.size, 0, none⟩ = some (.string s) ∧ w'.cell? ⟨w.heap.size, 1, none⟩ = some (.int .i64 t) ∧ w'.cell? ⟨w.heap.size, 2, none⟩ = some (.bool g))
        (first | with_reducible exact HS0 | with_reducible exact ⟨kept2 hQ1 z0 zl, kept2 hQ1 z1 zl, kept2 hQ1 z2 zl⟩ | with_reducible exact ⟨kept2 hQ2 z0 zl, kept2 hQ2 z1 zl, kept2 hQ2 z2 zl⟩ | fail)
        (first
          | (go_at_call 64; (with_reducible refine (HTB.out _).mono ?_); rintro e v1 ⟨rfl, hv1⟩; have hQ1 : Below w2.heap.size w2 v1 := below_drewL hv1)
          | (go_at_call 65; (with_reducible refine (HW.out v1 (HB2.out.trans (hQ1.mono HB2.out.size))).mono ?_); rintro e w4 ⟨A4, c4, rfl, ho4, hv4⟩; have hQ2 : Below w2.heap.size w2 w4 := hQ1.trans (hv4.mono hQ1.size))
          | fail)
      all_goals (
        have HB4 := Lib.hid (HB2.out.trans (hQ2.mono HB2.out.size))
        have HR4 := Lib.hid (ho4.lks)
        clear hQ1 hQ2 hv1 hv4 ho4 HS0 z0 z1 z2 hbel
        go_wp2
        go_loopw [6, 23] (fun v i wr => ∃ (k : Nat) (A1 : Option Addr) (ca : Nat) (L : List Int), k ≤ q ∧ i = .int .i64 k ∧ v = .slice A1 k ca ∧ Hid (L = (FL.take k).map fun y => y.2.1) ∧ Hid (L.length = k) ∧ Hid (OwnI wr w4.heap.size wr.heap.size A1 ca L) ∧ Hid (Below w4.heap.size w4 wr)) (fun _ i _ => q - (intOf i).toNat)
        case atStart => exact ⟨0, none, 0, [], by omega, rfl, rfl, Lib.hid rfl, Lib.hid rfl, Lib.hid (i_nil _ _ _), Lib.hid (Below.refl _ _)⟩
        case round =>
          obtain ⟨k, A1, ca, L, hk, rfl, rfl, HLK, HLM, HO, HBR⟩ := hrel
          by_cases hlt : k < q
          · obtain ⟨b, off, rfl, hbB, hc⟩ := HR4.out.get (by rw [HQ.out]; omega)
            obtain ⟨hc0, hc1, hc2⟩ := hc k (by rw [HQ.out]; omega)
            have c0 := (HBR.out.cell (p := ⟨b, off + k * 3, none⟩) hbB).trans hc0
            have c1 := (HBR.out.cell (p := ⟨b, off + k * 3 + 1, none⟩) hbB).trans hc1
            have c2 := (HBR.out.cell (p := ⟨b, off + k * 3 + 2, none⟩) hbB).trans hc2
            have hk0 : (0 : Int) ≤ (k : Int) := by omega
            have HSN := Lib.hid (map_snoc (L := FL) (k := k) (by rw [HQ.out]; omega))
            obtain ⟨y, hy⟩ : ∃ y, y = FL[k]'(by rw [HQ.out]; omega) := ⟨_, rfl⟩
            rw [← hy] at c0 c1 c2 HSN
            obtain ⟨s', t', g'⟩ := y
            simp only at c0 c1 c2
            have HL1 := Lib.hid (show L ++ [t'] = (FL.take (k + 1)).map fun y => y.2.1 by rw [HSN.out, HLK.out])
            have HM1 := Lib.hid (show (L ++ [t']).length = k + 1 by rw [List.length_append, HLM.out]; rfl)
            have HBX := Lib.hid (HBR.out.trans ((below1 wr (.cells #[.string s', .int .i64 t', .bool g'] 27)).mono HBR.out.size))
            have HOX := Lib.hid (own_growI HO.out (below1 wr (.cells #[.string s', .int .i64 t', .bool g'] 27)))
            have HBY := Lib.hid (HBX.out.trans ((below1 (wr.alloc (.cells #[.string s', .int .i64 t', .bool g'] 27)) (.cells #[.int .i64 t'] 3)).mono HBX.out.size))
            have HOY := Lib.hid (own_growI HOX.out (below1 (wr.alloc (.cells #[.string s', .int .i64 t', .bool g'] 27)) (.cells #[.int .i64 t'] 3)))
            have HROW := Lib.hid (i_rowL HOY.out HLM.out)
            have HNEW := Lib.hid (alloc_snd wr (.cells #[.string s', .int .i64 t', .bool g'] 27) (.cells #[.int .i64 t'] 3))
            have hlx : w4.heap.size ≤ ((wr.alloc (.cells #[.string s', .int .i64 t', .bool g'] 27)).alloc (.cells #[.int .i64 t'] 3)).heap.size := HBY.out.size
            clear hc hc0 hc1 hc2 hy
            go_wp2_with (at_builtin; refine wpList_app rfl (.tmp 27) (.tmp 30) 25 rfl w4.heap.size 3 i0 _ 1 8 Try.underlying25 hi0 hz0 hz1 hz2 rfl (by decide) (.slice A1 k ca) k ((L.map intCs).flatten) rfl HROW.out (some ⟨wr.heap.size + 1, 0, none⟩) 1 1 [.int .i64 t'] rfl rfl (fun _ => ⟨_, rfl, World.news_of_block (cs := #[.int .i64 t']) (t := 3) (fr := (0, 0)) HNEW.out⟩) (by simp [Value.oneCell']) (by unfold maxLen; omega) (by omega) hlx ?_; intro v5 w5 hown hgr _; have HB5 := Lib.hid (below_grow (n := k) (c := ca) (lo := 0) HBY.out HOY.out hgr); obtain ⟨A5, c5, rfl, ho5⟩ := i_one HLM.out hown; have HO5 := Lib.hid ho5; clear hown hgr ho5)
            go_roundw
            case rel => exact ⟨k + 1, A5, c5, L ++ [t'], by omega, by go_num, rfl, HL1, HM1, HO5, HB5⟩
            case measure => simp [intOf]; omega
          · have hkn : k = q := by omega
            subst hkn
            have HSO := Lib.hid (sortI_own HO.out HBR.out.size (by rw [HLM.out]; omega))
            rw [HLM.out] at HSO
            go_wp2_with fail
            refine HSO.out.mono ?_
            rintro e w6 ⟨rfl, ho6, hb6⟩
            have HF := Lib.hid (show IAPost (sortI (FL.map fun y => y.2.1), true) w (.returned (.tuple #[.slice A1 k ca, .bool true])) w6 by
              have e := HLK.out
              rw [List.take_of_length_le (by rw [HQ.out]; omega)] at e
              rw [← e]
              exact ⟨A1, ca, by rw [sortI_len, HLM.out], OwnI.wider ho6 HB4.out.size (Nat.le_refl _), HB4.out.trans ((HBR.out.trans hb6).mono HB4.out.size)⟩)
            clear ho6 hb6
            go_wp2
            exact bodyPost_ret (v := .tuple #[.slice A1 k ca, .bool true]) (by simp [results, Try.results16, go_sem]) rfl HF.out)
end Go.Proofs.Ytlfdefjkfacngaa.Lk
