/-
  The model's drawing of acts: l10Acts.
-/
import Derived.Test.YtpppgihoekfmoaaTools
import Derived.Test.YtpppgihoekfmoaaWtF10
import Derived.Deep.DeepCutAuto
namespace Go.Proofs.Ytpppgihoekfmoaa.Wt
open Go.RowKit
set_option linter.unusedVariables false
set_option linter.unusedSimpArgs false

theorem own_curG {w w' : World} {lo hi cap g sz : Nat} {t : TypeId} {A : Option Addr} {L : List (List Value)} (h : Own w lo hi t sz A cap L) (hG : w.grownBy w' (some g)) (hg : g < lo) : Own w' lo hi t sz A cap L := by
  rcases h with h | ⟨b, cur, hA, h1, h2, h3, h4⟩
  · exact .inl h
  · exact .inr ⟨b, cur, hA, h1, h2, (hG.block b (lt_blk h3) (by intro e; injection e with e; omega)).trans h3, h4⟩
theorem own_growG {w w' : World} {lo cap sz : Nat} {t : TypeId} {A : Option Addr} {L : List (List Value)} (h : Own w lo w.heap.size t sz A cap L) (hb : Below w.heap.size w w') : Own w' lo w'.heap.size t sz A cap L :=
  (Own.below h hb).wider (Nat.le_refl _) hb.size
theorem own_newG (w : World) (t : TypeId) (sz : Nat) (hsz : 0 < sz) : Own (w.alloc (.cells #[] t)) w.heap.size (w.alloc (.cells #[] t)).heap.size t sz (some ⟨w.heap.size, 0, none⟩) 0 [] :=
  own_of_lies (L := []) (own_empty w w.heap.size t sz (Nat.le_refl _)) (by simp) hsz (by simp) rfl
theorem ac_row {w : World} {lo hi c n : Nat} {A : Option Addr} {ls : List (Int × Int × Int)} (h : OwnAc w lo hi A c ls) (hn : ls.length = n) : w.ownsRow lo 36 3 (.slice A n c) n ((ls.map leCs).flatten) := by
  have h7 := Own.toRow h (leCs_len ls) (by decide)
  rw [List.length_map, hn] at h7
  exact h7
theorem ac_snoc {w' : World} {lo n : Nat} {ls : List (Int × Int × Int)} {a b d : Int} {v' : Value} (hn : ls.length = n) (hown : w'.ownsRow lo 36 3 v' (n + 1) ((ls.map leCs).flatten ++ [.int .i64 a, .int .i64 b, .int .i64 d])) : ∃ A5 c5, v' = .slice A5 (n + 1) c5 ∧ OwnAc w' lo w'.heap.size A5 c5 (ls ++ [(a, b, d)]) := by
  have e : (ls.map leCs).flatten ++ [Value.int .i64 a, .int .i64 b, .int .i64 d] = ((ls ++ [(a, b, d)]).map leCs).flatten := by simp [leCs]
  rw [e] at hown
  obtain ⟨A5, c5, hv, hl, ho⟩ := Own.ofRow hown (leCs_len _) (by decide) (hi := w'.heap.size) (fun k hk => (hown.lt k hk).2)
  rw [List.length_map, List.length_append, hn] at hv
  exact ⟨A5, c5, hv, ho⟩
/-- The kinds that are drawn. -/
def kindsD : List Int := [1, 1, 1, 2, 2, 3, 4]
/-- Some acts in a row of the call's own. -/
def ActsPost (w : World) (g : Nat) (l : List UInt8) (A : Option Addr) (c q d mx : Nat) (e : Ending) (w' : World) : Prop :=
  ∃ (A1 : Option Addr) (ca : Nat) (L : List (Int × Int × Int)) (q' : Nat), e = .returned (.slice A1 L.length ca) ∧ OwnAc w' w.heap.size w'.heap.size A1 ca L ∧ L.length ≤ mx ∧ q' ≤ q + d ∧ Cur w' g l A c q' ∧ w.grownBy w' (some g)
theorem new_atG (w : World) (o : Obj) (n : Nat) (h : n = w.heap.size) : (w.alloc o).heap[n]? = some o := by
  subst h; exact heap_alloc_new w o
theorem set2_blk {w : World} {g : Nat} {a b d v : Value} {t : TypeId} (h : w.heap[g]? = some (.cells #[a, b, d] t (0, 0))) : (w.setCell ⟨g, 2, none⟩ v).heap[g]? = some (.cells #[a, b, v] t (0, 0)) := by
  simp [World.setCell, Array.getElem?_modify, h]

set_option maxRecDepth 100000 in
set_option maxHeartbeats 4000000 in
theorem l10Acts_any (g : Nat) (l : List UInt8) (A : Option Addr) (c q : Nat) (w : World) (h : Cur w g l A c q) (hl : l.length ≤ 1048576) (hq : q ≤ 700000000) :
    Calls Try.prog 64 #[.pointer (some ⟨g, 0, none⟩), .int .i64 16] w (ActsPost w g l A c q 200 16) := by
  obtain ⟨i0, hi0, hz0, hz1, hz2⟩ := info_parts infoAct
  have hlt := h.lt
  have HC0 := Lib.hid (h.allocated (.cells #[] 36))
  have HN0 := Lib.hid (own_newG w 36 3 (by decide))
  have HG0 := Lib.hid (World.grownBy_alloc w (.cells #[] 36) (some g))
  clear h
  go_enter Try.func64, Try.ntmps64
  go_wp2_with fail
  refine (pick_any g l A c q 17 _ HC0.out hl (by omega) (by omega) (by omega)).mono ?_
  rintro e w1 ⟨x, q1, hx0, hx1, rfl, hq1, hC1, hG1⟩
  obtain ⟨n, rfl⟩ := nat_of hx0
  have hn16 : n ≤ 16 := by omega
  have HO1 := Lib.hid (show OwnAc w1 w.heap.size w1.heap.size (some ⟨w.heap.size, 0, none⟩) 0 [] from Own.wider (own_curG HN0.out hG1 hlt) (Nat.le_refl _) hG1.size)
  have HC1 := Lib.hid hC1
  have HG1 := Lib.hid (grown_trans HG0.out hG1)
  clear hC1 hG1 HC0 HN0 HG0
  go_wp2
  go_loopw [5, 7] (fun v i wr => ∃ (k q2 : Nat) (A1 : Option Addr) (ca : Nat) (L : List (Int × Int × Int)), k ≤ n ∧ i = .int .i64 k ∧ v = .slice A1 k ca ∧ Hid (L.length = k) ∧ Hid (OwnAc wr w.heap.size wr.heap.size A1 ca L) ∧ q2 ≤ q + 2 + 8 * k ∧ Hid (Cur wr g l A c q2) ∧ Hid (w.grownBy wr (some g))) (fun _ i _ => n - (intOf i).toNat)
  case atStart => exact ⟨0, q1, some ⟨w.heap.size, 0, none⟩, 0, [], by omega, rfl, rfl, Lib.hid rfl, HO1, by omega, HC1, HG1⟩
  case round =>
    clear HC1 HG1 HO1
    obtain ⟨k, q2, A1, ca, L, hk, rfl, rfl, HLM, HO, hq2, HC, HG⟩ := hrel
    have hws := HG.out.size
    by_cases hkn : k < n
    · have HAM := Lib.hid (among_any g l A c q2 wr.heap.size 7 7 kindsD _ (HC.out.allocated (.cells (kindsD.map (Value.int .i64)).toArray 3)) hl (by omega) rfl (by omega) (by omega) (by have := HC.out.lt; omega) (new_ints wr kindsD 3))
      have HGa := Lib.hid (World.grownBy_alloc wr (.cells (kindsD.map (Value.int .i64)).toArray 3) (some g))
      go_wp2_with fail
      refine HAM.out.mono ?_
      rintro e w2 ⟨kd, q3, hkd, rfl, hq3, hC2, hG2⟩
      have HG2 := Lib.hid (grown_trans HGa.out hG2)
      have HC2 := Lib.hid hC2
      clear hC2 hG2 hkd HAM HGa
      go_wp2_with fail
      refine (pick_any g l A c q3 5 _ HC2.out hl (by omega) (by omega) (by omega)).mono ?_
      rintro e w3 ⟨x, q4, hx0', hx1', rfl, hq4, hC3, hG3⟩
      have HG3 := Lib.hid (grown_trans HG2.out hG3)
      have HC3 := Lib.hid hC3
      clear hC3 hG3 HG2 HC2
      go_wp2_with fail
      refine (pick_any g l A c q4 12 _ HC3.out hl (by omega) (by omega) (by omega)).mono ?_
      rintro e w4 ⟨y, q5, hy0, hy1, rfl, hq5, hC4, hG4⟩
      have HG4 := Lib.hid (grown_trans HG3.out hG4)
      have HO4 := Lib.hid (show OwnAc w4 w.heap.size w4.heap.size A1 ca L from Own.wider (own_curG HO.out HG4.out hlt) (Nat.le_refl _) HG4.out.size)
      have HGW := Lib.hid (grown_alloc (grown_trans HG.out HG4.out) (.cells #[.int .i64 kd, .int .i64 x, .int .i64 (1 + y)] 36))
      have HC5 := Lib.hid (hC4.allocated (.cells #[.int .i64 kd, .int .i64 x, .int .i64 (1 + y)] 36))
      have HO5 := Lib.hid (show OwnAc _ w.heap.size _ A1 ca L from own_growG HO4.out (below1 w4 (.cells #[.int .i64 kd, .int .i64 x, .int .i64 (1 + y)] 36)))
      have HK5 := Lib.hid (heap_alloc_new w4 (.cells #[.int .i64 kd, .int .i64 x, .int .i64 (1 + y)] 36))
      have hz4 : w.heap.size ≤ w4.heap.size := by have := HG4.out.size; omega
      obtain ⟨gb, hgb⟩ : ∃ gb, gb = w4.heap.size := ⟨_, rfl⟩
      have hy12 : 1 + y ≤ 12 := by omega
      have hy01 : 1 ≤ 1 + y := by omega
      clear hC4 hG4 HG3 HC3 HG4 HC HG HO
      by_cases hk3 : kd = 3
      · subst hk3
        go_wp2_with fail
        refine (pick_any g l A c q5 13 _ HC5.out hl (by omega) (by omega) (by omega)).mono ?_
        rintro e w6 ⟨z, q6, hzz0, hzz1, rfl, hq6, hC6, hG6⟩
        have hK6 := block_kept hG6 HK5.out (by omega)
        have HGW6 := Lib.hid (grown_setNew (p := ⟨w4.heap.size, 2, none⟩) (grown_trans HGW.out hG6) (by simp; omega) (.int .i64 (z - 6)))
        have HC6 := Lib.hid (hC6.setNew (p := ⟨w4.heap.size, 2, none⟩) (by simp; omega) (.int .i64 (z - 6)))
        have HO6 := Lib.hid (show OwnAc (w6.setCell ⟨w4.heap.size, 2, none⟩ (.int .i64 (z - 6))) w.heap.size (w6.setCell ⟨w4.heap.size, 2, none⟩ (.int .i64 (z - 6))).heap.size A1 ca L from OwnAc.wider (OwnAc.high (p := ⟨w4.heap.size, 2, none⟩) (show OwnAc w6 w.heap.size w4.heap.size A1 ca L from own_curG (Own.below HO4.out (below1 w4 (.cells #[.int .i64 3, .int .i64 x, .int .i64 (1 + y)] 36))) hG6 hlt) (Nat.le_refl _) _) (Nat.le_refl _) (by have h9 := hG6.size; simp [World.setCell] at h9 ⊢; omega))
        have HK6 := Lib.hid (set2_blk (v := .int .i64 (z - 6)) hK6)
        have f2 := free_blk hK6 2
        have e0 := cell_blk (i := 0) hK6 rfl
        have e1 := cell_blk (i := 1) hK6 rfl
        have e2 := cell_blk (i := 2) hK6 rfl
        clear hG6 hC6
        have b0 := cell_blk (i := 0) HK6.out rfl
        have b1 := cell_blk (i := 1) HK6.out rfl
        have b2 := cell_blk (i := 2) HK6.out rfl
        have HROL := Lib.hid (ac_row HO6.out HLM.out)
        have HROW := Lib.hid (row_below HROL.out (below1 (w6.setCell ⟨w4.heap.size, 2, none⟩ (.int .i64 (z - 6))) (.cells #[.int .i64 3, .int .i64 x, .int .i64 (z - 6)] 36)))
        have HNEW := Lib.hid (new_atG (w6.setCell ⟨w4.heap.size, 2, none⟩ (.int .i64 (z - 6))) (.cells #[.int .i64 3, .int .i64 x, .int .i64 (z - 6)] 36) (w6.heap.size) (by simp [World.setCell]))
        have hlx : w.heap.size ≤ ((w6.setCell ⟨w4.heap.size, 2, none⟩ (.int .i64 (z - 6))).alloc (.cells #[.int .i64 3, .int .i64 x, .int .i64 (z - 6)] 36)).heap.size := by simp [World.setCell]; have := HGW6.out.size; simp [World.setCell] at this; omega
        have HN1 := Lib.hid (show (L ++ [(3, x, (z - 6))]).length = k + 1 by rw [List.length_append, HLM.out]; rfl)
        go_wp2_with (at_builtin; refine wpList_app rfl (.tmp 35) (.tmp 37) 38 rfl w.heap.size 36 i0 _ 3 24 Try.underlying38 hi0 hz0 hz1 hz2 rfl (by decide) (.slice A1 k ca) k ((L.map leCs).flatten) rfl HROW.out (some ⟨w6.heap.size, 0, none⟩) 1 1 [.int .i64 3, .int .i64 x, .int .i64 (z - 6)] rfl rfl (fun _ => ⟨_, rfl, World.news_of_block (cs := #[.int .i64 3, .int .i64 x, .int .i64 (z - 6)]) (t := 36) (fr := (0, 0)) HNEW.out⟩) (by simp [Value.oneCell']) (by unfold maxLen; omega) (by omega) hlx ?_; intro v5 w9 hown hgr _; have HG9 := Lib.hid (grown_app HGW6.out HROL.out hgr); have HC9 := Lib.hid (HC6.out.belowB (below_app (Below.refl w.heap.size (w6.setCell ⟨w4.heap.size, 2, none⟩ (.int .i64 (z - 6)))) (by have := HGW6.out.size; simp [World.setCell] at this ⊢; omega) HROL.out hgr) hlt); obtain ⟨A5, c5, rfl, ho5⟩ := ac_snoc HLM.out hown; have HO9 := Lib.hid ho5; clear hown hgr ho5)
        go_roundw
        case rel => exact ⟨k + 1, q6, A5, c5, L ++ [(3, x, (z - 6))], by omega, by go_num, rfl, HN1, HO9, by omega, HC9, HG9⟩
        case measure => simp [intOf]; omega
      · have hk3b : (kd == 3) = false := by simp [hk3]
        have hk3d : decide (kd = 3) = false := by simp [hk3]
        have b0 := cell_blk (i := 0) HK5.out rfl
        have b1 := cell_blk (i := 1) HK5.out rfl
        have b2 := cell_blk (i := 2) HK5.out rfl
        have HROL := Lib.hid (ac_row HO5.out HLM.out)
        have HROW := Lib.hid (row_below HROL.out (below1 (w4.alloc (.cells #[.int .i64 kd, .int .i64 x, .int .i64 (1 + y)] 36)) (.cells #[.int .i64 kd, .int .i64 x, .int .i64 (1 + y)] 36)))
        have HNEW := Lib.hid (new_atG (w4.alloc (.cells #[.int .i64 kd, .int .i64 x, .int .i64 (1 + y)] 36)) (.cells #[.int .i64 kd, .int .i64 x, .int .i64 (1 + y)] 36) (w4.heap.size + 1) (by simp [World.setCell]))
        have hlx : w.heap.size ≤ ((w4.alloc (.cells #[.int .i64 kd, .int .i64 x, .int .i64 (1 + y)] 36)).alloc (.cells #[.int .i64 kd, .int .i64 x, .int .i64 (1 + y)] 36)).heap.size := by simp [World.setCell]; have := HGW.out.size; simp [World.setCell] at this; omega
        have HN1 := Lib.hid (show (L ++ [(kd, x, (1 + y))]).length = k + 1 by rw [List.length_append, HLM.out]; rfl)
        go_wp2_with (at_builtin; refine wpList_app rfl (.tmp 35) (.tmp 37) 38 rfl w.heap.size 36 i0 _ 3 24 Try.underlying38 hi0 hz0 hz1 hz2 rfl (by decide) (.slice A1 k ca) k ((L.map leCs).flatten) rfl HROW.out (some ⟨w4.heap.size + 1, 0, none⟩) 1 1 [.int .i64 kd, .int .i64 x, .int .i64 (1 + y)] rfl rfl (fun _ => ⟨_, rfl, World.news_of_block (cs := #[.int .i64 kd, .int .i64 x, .int .i64 (1 + y)]) (t := 36) (fr := (0, 0)) HNEW.out⟩) (by simp [Value.oneCell']) (by unfold maxLen; omega) (by omega) hlx ?_; intro v5 w9 hown hgr _; have HG9 := Lib.hid (grown_app HGW.out HROL.out hgr); have HC9 := Lib.hid (HC5.out.belowB (below_app (Below.refl w.heap.size (w4.alloc (.cells #[.int .i64 kd, .int .i64 x, .int .i64 (1 + y)] 36))) (by have := HGW.out.size; simp [World.setCell] at this ⊢; omega) HROL.out hgr) hlt); obtain ⟨A5, c5, rfl, ho5⟩ := ac_snoc HLM.out hown; have HO9 := Lib.hid ho5; clear hown hgr ho5)
        go_roundw
        case rel => exact ⟨k + 1, q5, A5, c5, L ++ [(kd, x, (1 + y))], by omega, by go_num, rfl, HN1, HO9, by omega, HC9, HG9⟩
        case measure => simp [intOf]; omega
    · have hkn0 : k = n := by omega
      subst hkn0
      go_wp2
      go_ret
      exact ⟨A1, ca, L, q2, by rw [HLM.out]; rfl, HO.out, by rw [HLM.out]; omega, by omega, HC.out, HG.out⟩
end Go.Proofs.Ytpppgihoekfmoaa.Wt
