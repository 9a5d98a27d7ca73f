/-
  The contract of recIn of the program.
-/
import Derived.Test.YtkhndofplebcaaaRdP
import Derived.Deep.RegionLaw
namespace Go.Proofs.Ytkhndofplebcaaa
open Go.RowKit CM
set_option linter.unusedVariables false

/-- What recIn hands back: what was read, its slices the call's own. -/
def RecInPost (s : ByteArray) (w : World) (e : Ending) (w' : World) : Prop :=
  ∃ A c A' c' m, e = .returned (.agg #[.int .i64 ((r1 s).1 : Int), .int .i64 ((r2 s).1 : Int), .int .i64 ((r3 s).1 : Int), .int .i64 ((r4 s).1 : Int), .slice A (r6 s).1.length c, .slice A' (r8 s).1.length c', .bool (((r5 s).1 : Int) == 1)]) ∧
    OwnS w' w.heap.size m A c (r6 s).1 ∧ OwnW w' m w'.heap.size A' c' (r8 s).1 ∧ w.heap.size ≤ m ∧ m ≤ w'.heap.size ∧ Below w.heap.size w w' ∧ (r6 s).1.length ≤ 40
theorem own_grown {w w' : World} {g lo hi sz c : Nat} {t : TypeId} {A : Option Addr} {L : List (List Value)} (h : Own w lo hi t sz A c L) (hg : w.grownBy w' (some g)) (hlo : g < lo) : Own w' lo hi t sz A c L := by
  rcases h with h | ⟨b, cur, e1, e2, e3, hh, e4⟩
  · exact .inl h
  · exact .inr ⟨b, cur, e1, e2, e3, (hg.block b (lt_blk hh) (fun e => by injection e with e; omega)).trans hh, e4⟩
theorem row_grown {w w' : World} {g lo n sz : Nat} {t : TypeId} {v : Value} {xs : List Value} (h : w.ownsRow lo t sz v n xs) (hg : w.grownBy w' (some g)) (hlo : g < lo) : w'.ownsRow lo t sz v n xs := by
  refine ⟨h.1, ?_⟩
  rcases h.2 with h0 | ⟨b, cap, cur, e1, e2, hh, e3⟩
  · exact .inl h0
  · exact .inr ⟨b, cap, cur, e1, e2, (hg.block b (lt_blk hh) (fun e => by injection e with e; omega)).trans hh, e3⟩
theorem blk_grown {w w' : World} {g b : Nat} {o : Obj} (h : w.heap[b]? = some o) (hg : w.grownBy w' (some g)) (hb : b ≠ g) : w'.heap[b]? = some o := (hg.block b (Array.getElem?_eq_some_iff.1 h).1 (fun e => by injection e with e; exact hb e)).trans h
theorem grown_allocd {w w1 : World} {row : Option Nat} (h : w.grownBy w1 row) (o : Obj) : w.grownBy (w1.alloc o) row :=
  ⟨h.os, h.tape, h.output, by have := h.size; simp; omega, fun k hk hn => (Below.heap_alloc _ _ _ (by have := h.size; omega)).trans (h.block k hk hn)⟩
def RInv (w6 : World) (g b m : Nat) (s : ByteArray) (σ0 : Option Nat) (k t tm ld : Nat) (A : Option Addr) (n c : Nat) (y : Bool) (j : Nat) (wr : World) : Prop :=
  ∃ v, wr.heap[b]? = some (.cells #[.int .i64 (k : Int), .int .i64 (t : Int), .int .i64 (tm : Int), .int .i64 (ld : Int), .slice A n c, v, .bool y] 33 (0, 0)) ∧ wr.ownsRow m 121 3 v j (((rdWs s σ0 j).1.map wrCs).flatten) ∧ PR wr g s (rdWs s σ0 j).2 ∧ w6.grownBy wr (some g)
/-- What PTs says, in one form. -/
theorem PTs.all {s : ByteArray} {σ : Option Nat} {w w' : World} {g : Nat} {e : Ending} (h : PTs s σ w g e w') :
    ∃ A c, e = .returned (.slice A (rdTs s σ).1.length c) ∧ w.grownBy w' (some g) ∧ PR w' g s (rdTs s σ).2 ∧ OwnS w' w.heap.size w'.heap.size A c (rdTs s σ).1 ∧ (rdTs s σ).1.length ≤ 40 := by
  obtain ⟨hG, ⟨rfl, hP, hr⟩ | ⟨q, l, z, g2, rfl, hr, rfl, hP, hl, ho⟩⟩ := h
  · rw [hr]; exact ⟨none, 0, rfl, hG, hP, .inl ⟨rfl, rfl, rfl⟩, by simp⟩
  · rw [rdTs_of hr]; exact ⟨_, _, rfl, hG, hP, ho, hl⟩

theorem wr_step {s : ByteArray} {σ' : Option Nat} {w6 w11 w12 : World} {g m : Nat} {v v' : Value} {cs : Array Value} {tx : TypeId} {o : Obj} {sz n : Nat} {t : TypeId} {xs : List Value}
    (hG : w6.grownBy w11 (some g)) (hP : PR w11 g s σ') (hgrow : (w11.alloc o).grownBy w12 v.ownBlock) (hv : ∀ z, v.ownBlock = some z → m ≤ z) (hm : w6.heap.size < m) (hg : g < w6.heap.size) (hsz : w6.heap.size < w11.heap.size) (k12 : w12.heap[w6.heap.size]? = some (.cells cs tx (0, 0))) (i : Nat) (hown : w12.ownsRow m t sz v' n xs) :
    (w12.setCell ⟨w6.heap.size, i, none⟩ v').heap[w6.heap.size]? = some (.cells (cs.setIfInBounds i v') tx (0, 0)) ∧ (w12.setCell ⟨w6.heap.size, i, none⟩ v').ownsRow m t sz v' n xs ∧ PR (w12.setCell ⟨w6.heap.size, i, none⟩ v') g s σ' ∧ w6.grownBy (w12.setCell ⟨w6.heap.size, i, none⟩ v') (some g) := by
  have hs12 : w11.heap.size ≤ w12.heap.size := by have := hgrow.size; simp at this; omega
  have key : ∀ k, k < w11.heap.size → k < m → k ≠ w6.heap.size → (w12.setCell ⟨w6.heap.size, i, none⟩ v').heap[k]? = w11.heap[k]? := fun k hk hkm hne =>
    (Below.heap_setCell _ _ _ _ (by exact hne)).trans ((hgrow.block k (by simp; omega) (fun e => by have := hv k e.symm; omega)).trans (Below.heap_alloc _ _ _ hk))
  refine ⟨set_blk k12 v', ?_, ?_, ?_⟩
  · refine hown.kept (row := some w6.heap.size) (C1.grown_set (C1.grown_refl _ _) rfl _) ?_
    cases h : v'.ownBlock with
    | none => exact .inl rfl
    | some z => exact .inr (fun e => by have := (hown.lt z h).1; injection e with e; omega)
  · exact ⟨(key g (by omega) (by omega) (by omega)).trans hP.1, hP.2⟩
  · exact ⟨hgrow.os.trans hG.os, hgrow.tape.trans hG.tape, hgrow.output.trans hG.output, by have := hG.size; simp [World.setCell]; omega, fun k hk hr => (key k (by omega) (by omega) (by omega)).trans (hG.block k hk hr)⟩

set_option maxRecDepth 100000 in
set_option maxHeartbeats 4000000 in
theorem recIn_any (s : ByteArray) (w : World) (hs : s.size ≤ 6000) :
    Calls Try.prog 102 #[.string s] w (RecInPost s w) := by
  obtain ⟨j0, hj, hy0, hy1, hy2⟩ := info_parts infoWrite
  obtain ⟨W0, hW0⟩ : ∃ W0, W0 = (w.alloc (.cells #[.int .i64 0, .int .i64 0, .int .i64 0, .int .i64 0, .slice none 0 0, .slice none 0 0, .bool false] 33)).alloc (.cells #[.string s, .int .i64 0] 168) := ⟨_, rfl⟩
  have hb0 : Below w.heap.size w W0 := by rw [hW0]; exact below2 _ _ _
  have kr : W0.heap[w.heap.size]? = some (.cells #[.int .i64 0, .int .i64 0, .int .i64 0, .int .i64 0, .slice none 0 0, .slice none 0 0, .bool false] 33) := by rw [hW0]; exact alloc2_a _ _ _
  have kg : W0.heap[w.heap.size + 1]? = some (.cells #[.string s, .int .i64 0] 168) := by rw [hW0]; exact alloc2_b _ _ _
  have HPR0 := Lib.hid (show PR W0 (w.heap.size + 1) s (some 0) from ⟨kg, fun q hq => by injection hq with hq; omega⟩)
  have HW0 := Lib.hid hW0
  have HB0 := Lib.hid hb0
  have KR := Lib.hid kr
  have hltg : w.heap.size + 1 < W0.heap.size := lt_blk kg
  clear hW0 hb0 kr kg
  obtain ⟨k, hk⟩ : ∃ k, k = (r1 s).1 := ⟨_, rfl⟩
  obtain ⟨t, ht⟩ : ∃ t, t = (r2 s).1 := ⟨_, rfl⟩
  obtain ⟨tm, htm⟩ : ∃ t, t = (r3 s).1 := ⟨_, rfl⟩
  obtain ⟨ld, hld⟩ : ∃ t, t = (r4 s).1 := ⟨_, rfl⟩
  obtain ⟨y, hy⟩ : ∃ y, y = (((r5 s).1 : Int) == 1) := ⟨_, rfl⟩
  obtain ⟨rs, hrs⟩ : ∃ l, l = (r6 s).1 := ⟨_, rfl⟩
  have Hk := Lib.hid hk
  have Ht := Lib.hid ht
  have Htm := Lib.hid htm
  have Hld := Lib.hid hld
  have Hy := Lib.hid hy
  have Hrs := Lib.hid hrs
  clear hk ht htm hld hy hrs
  go_enter Try.func102, Try.ntmps102
  go_wp2_with fail
  rw [← HW0.out]
  refine (prNum_any (w.heap.size + 1) s (some 0) W0 HPR0.out hs).mono ?_
  rintro e w1 ⟨rfl, hG1, hP1⟩
  have HG1 := Lib.hid hG1
  have HP1 := Lib.hid (show PR w1 (w.heap.size + 1) s (r1 s).2 from hP1)
  rw [show (rdN s (some 0)).1 = k from Hk.out.symm]
  clear hG1 hP1
  go_wp2_with fail
  refine (prNum_any _ s _ w1 HP1.out hs).mono ?_
  rintro e w2 ⟨rfl, hG2, hP2⟩
  have HG2 := Lib.hid (C1.grown_trans HG1.out hG2)
  have HP2 := Lib.hid (show PR w2 (w.heap.size + 1) s (r2 s).2 from hP2)
  rw [show (rdN s (r1 s).2).1 = t from Ht.out.symm]
  clear hG2 hP2
  go_wp2_with fail
  refine (prNum_any _ s _ w2 HP2.out hs).mono ?_
  rintro e w3 ⟨rfl, hG3, hP3⟩
  have HG3 := Lib.hid (C1.grown_trans HG2.out hG3)
  have HP3 := Lib.hid (show PR w3 (w.heap.size + 1) s (r3 s).2 from hP3)
  rw [show (rdN s (r2 s).2).1 = tm from Htm.out.symm]
  clear hG3 hP3
  go_wp2_with fail
  refine (prNum_any _ s _ w3 HP3.out hs).mono ?_
  rintro e w4 ⟨rfl, hG4, hP4⟩
  have HG4 := Lib.hid (C1.grown_trans HG3.out hG4)
  have HP4 := Lib.hid (show PR w4 (w.heap.size + 1) s (r4 s).2 from hP4)
  rw [show (rdN s (r3 s).2).1 = ld from Hld.out.symm]
  clear hG4 hP4
  go_wp2_with fail
  refine (prFlag_any _ s _ w4 HP4.out hs).mono ?_
  rintro e w5 ⟨rfl, hG5, hP5⟩
  have HG5 := Lib.hid (C1.grown_trans HG4.out hG5)
  have HP5 := Lib.hid (show PR w5 (w.heap.size + 1) s (r5 s).2 from hP5)
  rw [show (((rdN s (r4 s).2).1 : Int) == 1) = y from Hy.out.symm]
  clear hG5 hP5
  go_wp2_with fail
  refine (partTexts_any _ s _ w5 HP5.out hs (fun q l z hq hr => (texts_size (HP5.out.2 q hq) hr).2)).mono ?_
  intro e w6 hpost
  obtain ⟨A, c, rfl, hG6, hP6, hO6, hl6⟩ := PTs.all hpost
  rw [show rdTs s (r5 s).2 = r6 s from rfl] at hP6
  rw [show (rdTs s (r5 s).2).1 = rs from Hrs.out.symm] at hO6 hl6 ⊢
  have HG6 := Lib.hid (C1.grown_trans HG5.out hG6)
  have HP6 := Lib.hid hP6
  have hs5 : W0.heap.size ≤ w5.heap.size := HG5.out.size
  have hs56 : w5.heap.size ≤ w6.heap.size := hG6.size
  have HO6 := Lib.hid hO6
  clear hG6 hP6 hO6 hpost
  have hgl : w.heap.size + 1 < w6.heap.size := by omega
  obtain ⟨W7, hW7⟩ : ∃ W7, W7 = w6.alloc (.cells #[.int .i64 (k : Int), .int .i64 (t : Int), .int .i64 (tm : Int), .int .i64 (ld : Int), .slice A rs.length c, .slice none 0 0, .bool y] 33) := ⟨_, rfl⟩
  have hb7 : Below w6.heap.size w6 W7 := by rw [hW7]; exact below1 _ _
  have kx : W7.heap[w6.heap.size]? = some (.cells #[.int .i64 (k : Int), .int .i64 (t : Int), .int .i64 (tm : Int), .int .i64 (ld : Int), .slice A rs.length c, .slice none 0 0, .bool y] 33) := by rw [hW7]; exact heap_alloc_new _ _
  have hs7 : W7.heap.size = w6.heap.size + 1 := by rw [hW7]; simp
  have HP7 := Lib.hid (HP6.out.below hb7)
  have HG7 := Lib.hid (show w6.grownBy W7 (some (w.heap.size + 1)) from C1.grown_below (C1.grown_refl _ _) hb7)
  have HW7 := Lib.hid hW7
  have KX := Lib.hid kx
  clear hW7 hb7 kx
  go_wp2_with fail
  rw [← HW7.out]
  refine (prNum_any _ s _ W7 HP7.out hs).mono ?_
  rintro e w8 ⟨rfl, hG8, hP8⟩
  rw [show (rdN s (r6 s).2).1 = (r7 s).1 from rfl]
  have HR0 := Lib.hid (show RInv w6 (w.heap.size + 1) w6.heap.size W7.heap.size s (r7 s).2 k t tm ld A rs.length c y 0 w8 from ⟨_, blk_grown KX.out hG8 (by omega), World.ownsRow_nil _ _ _ _, hP8, C1.grown_trans HG7.out hG8⟩)
  clear hG8 hP8
  obtain ⟨n, hn⟩ : ∃ n, n = (r7 s).1 := ⟨_, rfl⟩
  have hn9 : n ≤ 1000000000 := by rw [hn]; exact (rdN_in HP6.out.2).2.1
  have HN := Lib.hid hn
  rw [← hn]
  clear hn
  obtain ⟨nl, hnl⟩ : ∃ nl : Nat, nl = min n 8 := ⟨_, rfl⟩
  have hmin : min (n : Int) 8 = (nl : Int) := by omega
  have hnl8 : nl ≤ 8 := by omega
  have HNL := Lib.hid hnl
  clear hnl
  · skip
    go_wp2
    go_loopw [24] (fun i wr => ∃ j : Nat, j ≤ nl ∧ i = .int .i64 j ∧ RInv w6 (w.heap.size + 1) w6.heap.size W7.heap.size s (r7 s).2 k t tm ld A rs.length c y j wr) (fun i _ => nl - (intOf i).toNat)
    case atStart => exact ⟨0, by omega, rfl, HR0.out⟩
    case round =>
      rename World => wr
      clear HR0
      obtain ⟨j, hjl, rfl, v, hkb, hown, hP, hG⟩ := hrel
      by_cases hlt : j < nl
      · have x0 := cell_blk (i := 5) hkb rfl
        have HKB := Lib.hid (show wr.drew.heap[w6.heap.size]? = _ from hkb)
        have HPd := Lib.hid (show PR wr.drew (w.heap.size + 1) s (rdWs s (r7 s).2 j).2 from hP)
        have HOW := Lib.hid (show wr.drew.ownsRow _ _ _ _ _ _ from hown)
        have HG := Lib.hid hG
        have hbg : w6.heap.size ≠ w.heap.size + 1 := by omega
        have hgm : w.heap.size + 1 < W7.heap.size := by omega
        obtain ⟨σ, hσ⟩ : ∃ σ, σ = (rdWs s (r7 s).2 j).2 := ⟨_, rfl⟩
        rw [← hσ] at HPd
        obtain ⟨fl, hfl⟩ : ∃ fl, fl = ((rdWs s (r7 s).2 j).1.map wrCs).flatten := ⟨_, rfl⟩
        rw [← hfl] at HOW
        have hwrs : w6.heap.size < wr.heap.size := lt_blk hkb
        have HNX := Lib.hid (show ∀ W v', W.heap[w6.heap.size]? = some (.cells #[.int .i64 (k : Int), .int .i64 (t : Int), .int .i64 (tm : Int), .int .i64 (ld : Int), .slice A rs.length c, v', .bool y] 33 (0, 0)) → W.ownsRow W7.heap.size 121 3 v' (j + 1) (fl ++ wrCs (rdW s σ).1) → PR W (w.heap.size + 1) s (rdW s σ).2 → w6.grownBy W (some (w.heap.size + 1)) → RInv w6 (w.heap.size + 1) w6.heap.size W7.heap.size s (r7 s).2 k t tm ld A rs.length c y (j + 1) W from fun W v' h1 h2 h3 h4 => ⟨v', h1, by
            rw [hfl] at h2
            unfold rdWs
            rw [List.map_append, List.flatten_append, ← hσ]
            simpa using h2, by unfold rdWs; rw [← hσ]; exact h3, h4⟩)
        clear hkb hown hP hG hσ hfl
        go_wp2_with fail
        go_region_law (first
          | ((refine step_append_lies _ (by rfl) _ _ _ (by rfl) W7.heap.size 121 j0 _ 3 40 Try.underlying31 hj hy0 hy1 hy2 rfl (by decide) _ j fl (by rfl) (o11.alloc _) ⟨w11.heap.size, 0, none⟩ 1 1 [.string (rdT s σ).1, .string (rdT s (rdN s (rdT s σ).2).2).1, .bool (((rdN s (rdT s σ).2).1 : Int) == 1)] (by rfl) (by rfl) (World.news_of_block (cs := #[.string (rdT s σ).1, .string (rdT s (rdN s (rdT s σ).2).2).1, .bool (((rdN s (rdT s σ).2).1 : Int) == 1)]) (t := 121) (fr := (0, 0)) (heap_alloc_new w11 _)) (by simp [Value.oneCell']) (by omega) (by unfold maxLen; omega) (by omega) (by simp; omega) (w11.heap.size + 1) (by simp) ?_; intro g12 cap12 w12 hown12 hgrow12 hat12 hlt12; have k12 : w12.heap[w6.heap.size]? = _ := (hgrow12.block w6.heap.size (by simp; omega) (fun e => by have := (o11.lt w6.heap.size e.symm).1; omega)).trans ((Below.heap_alloc _ _ _ (by omega)).trans k11); have x12 := cell_blk (i := 5) k12 rfl; have f12 := free_all k12))
          | ((go_simp; go_at_call 144; (with_reducible refine (prText_any (w.heap.size + 1) s σ wr.drew HPd.out hs).mono ?_); rintro e w9 ⟨rfl, hG9, hP9⟩; have k9 := blk_grown HKB.out hG9 hbg; have x9 := cell_blk (i := 5) k9 rfl; have o9 := row_grown HOW.out hG9 hgm; have l9 : wr.heap.size ≤ w9.heap.size := hG9.size))
          | ((go_simp; go_at_call 141; (with_reducible refine (prFlag_any (w.heap.size + 1) s _ w9 hP9 hs).mono ?_); rintro e w10 ⟨rfl, hG10, hP10⟩; have k10 := blk_grown k9 hG10 hbg; have x10 := cell_blk (i := 5) k10 rfl; have o10 := row_grown o9 hG10 hgm; have l10 := hG10.size))
          | ((go_simp; go_at_call 144; (with_reducible refine (prText_any (w.heap.size + 1) s _ w10 hP10 hs).mono ?_); rintro e w11 ⟨rfl, hG11, hP11⟩; have k11 := blk_grown k10 hG11 hbg; have x11 := cell_blk (i := 5) k11 rfl; have o11 := row_grown o10 hG11 hgm; have l11 := hG11.size; have x11a : ∀ o : Obj, (w11.alloc o).cell? ⟨w6.heap.size, 5, none⟩ = some v := fun o => cell_blk (i := 5) ((Below.heap_alloc _ _ _ (by omega)).trans k11) rfl)))
        all_goals (
          have hG11' := C1.grown_trans (C1.grown_trans (C1.grown_trans (C1.grown_drew HG.out) hG9) hG10) hG11
          obtain ⟨h1, h2, h3, h4⟩ := wr_step (m := W7.heap.size) hG11' hP11 hgrow12 (fun z e => (o11.lt z e).1) (by omega) (by omega) (by omega) k12 5 hown12
          have HNX' := Lib.hid (HNX.out _ _ h1 h2 h3 h4)
          clear h1 h2 h3 h4 hG11' hgrow12 hown12
          go_wp2
          go_roundw
          case rel => exact ⟨j + 1, by omega, by go_num, HNX'.out⟩
          case measure => simp [intOf]; omega)
      · have hjn : j = nl := by omega
        subst hjn
        obtain ⟨A', c', rfl, hwl, how⟩ := Own.ofRow (hi := wr.heap.size) hown (fun x hx => by obtain ⟨r, _, rfl⟩ := List.mem_map.1 hx; rfl) (by decide) (fun k hk => (hown.lt k hk).2)
        rw [List.length_map] at hwl hkb
        have x0 := cell_blk (i := 0) hkb rfl
        have x1 := cell_blk (i := 1) hkb rfl
        have x2 := cell_blk (i := 2) hkb rfl
        have x3 := cell_blk (i := 3) hkb rfl
        have x4 := cell_blk (i := 4) hkb rfl
        have x5 := cell_blk (i := 5) hkb rfl
        have x6 := cell_blk (i := 6) hkb rfl
        have hH := KR.out
        have hgr : w.heap.size ≠ w.heap.size + 1 := by omega
        have kr := blk_grown (blk_grown KR.out HG6.out hgr) hG hgr
        have y0 := cell_blk (i := 0) kr rfl
        have y1 := cell_blk (i := 1) kr rfl
        have y2 := cell_blk (i := 2) kr rfl
        have y3 := cell_blk (i := 3) kr rfl
        have y4 := cell_blk (i := 4) kr rfl
        have y5 := cell_blk (i := 5) kr rfl
        have y6 := cell_blk (i := 6) kr rfl
        have hfr := free_all kr
        clear hH
        have hn1 : n = (r7 s).1 := HN.out
        have hr8 : r8 s = rdWs s (r7 s).2 j := by unfold r8; rw [← hn1, ← HNL.out]
        rw [hwl] at hkb x5
        have how' : OwnW wr W7.heap.size wr.heap.size A' c' (r8 s).1 := by rw [hr8]; exact how
        have hwl8 : (r8 s).1.length = j := by rw [hr8]; exact hwl
        have hB0 : Below w.heap.size w wr := HB0.out.trans (C1.below_of_grown (B := w.heap.size) (C1.grown_trans HG6.out hG) (by omega) HB0.out.size)
        have hgs : w6.heap.size ≤ wr.heap.size := hG.size
        have HM : ∀ W, Mid w.heap.size (w.heap.size + 1) wr W → RecInPost s w (.returned (.agg #[.int .i64 (k : Int), .int .i64 (t : Int), .int .i64 (tm : Int), .int .i64 (ld : Int), .slice A rs.length c, .slice A' j c', .bool y])) W := fun W hm => by
          have hsW : wr.heap.size ≤ W.heap.size := hm.2.2.2.1
          have hO : OwnS wr w5.heap.size w6.heap.size A c rs := own_grown HO6.out hG (by omega)
          refine ⟨A, c, A', c', w6.heap.size, ?_, ?_, ?_, by omega, by omega, hB0.trans ((hm.below (by omega)).mono (by omega)), by rw [← Hrs.out]; exact hl6⟩
          · rw [Hk.out, Ht.out, Htm.out, Hld.out, Hy.out, Hrs.out, hwl8]
          · rw [← Hrs.out]; exact (Own.mid hO hm (.inl (by omega))).wider (by omega) (Nat.le_refl _)
          · exact (how'.mid hm (.inl (by omega))).wider (by omega) hsW
        go_wp2
        refine bodyPost_ret (v := .agg #[.int .i64 (k : Int), .int .i64 (t : Int), .int .i64 (tm : Int), .int .i64 (ld : Int), .slice A rs.length c, .slice A' j c', .bool y]) (by simp [results, Try.results102, go_sem, *]) rfl (HM _ ?_)
        refine Mid.set ?_ (by simp) _
        refine Mid.set ?_ (by simp) _
        refine Mid.set ?_ (by simp) _
        refine Mid.set ?_ (by simp) _
        refine Mid.set ?_ (by simp) _
        refine Mid.set ?_ (by simp) _
        refine Mid.set ?_ (by simp) _
        exact Mid.refl _ _ _
end Go.Proofs.Ytkhndofplebcaaa
