/-
  NewPoll of the model.
-/
import Derived.Test.YtojplmjoipjabaaPoNew
import Derived.Test.YtojplmjoipjabaaPoNw
import Derived.Test.YtojplmjoipjabaaApp
namespace Go.Proofs.Ytojplmjoipjabaa.Po
open Go.RowKit Nt
set_option linter.unusedVariables false
set_option linter.unusedSimpArgs false

theorem nil_ownI (w : World) : OwnI (w.alloc (.cells #[] 3)) w.heap.size (w.alloc (.cells #[] 3)).heap.size (some ⟨w.heap.size, 0, none⟩) 0 [] :=
  .inr ⟨w.heap.size, #[], rfl, Nat.le_refl _, by simp, heap_alloc_new _ _, by simp, by unfold maxLen; omega, by simp, fun j hj => by simp at hj⟩
theorem Own_keep {w w' : World} {lo hi : Nat} {t : TypeId} {sz cap : Nat} {A : Option Addr} {L : List (List Value)} (h : Own w lo hi t sz A cap L) (hk : ∀ (g : Nat) (cur : Array Value), w.heap[g]? = some (Obj.cells cur t (0, 0)) → w'.heap[g]? = w.heap[g]?) : Own w' lo hi t sz A cap L := by
  rcases h with h | ⟨g, cur, hA, h1, h2, h3, h4⟩
  · exact .inl h
  · exact .inr ⟨g, cur, hA, h1, h2, (hk _ _ h3).trans h3, h4⟩
theorem vot_ne {W : World} {lo m k c3 g : Nat} {A3 : Option Addr} {gs : List ((Bool × Int × Int × Bool) × Option Addr × Nat × List Int)} {cur : Array Value} {t : TypeId} (hgs : OwnV W lo m A3 c3 gs) (hg : W.heap[g]? = some (Obj.cells cur t (0, 0))) (ht : 81 ≠ t) : some g ≠ (Value.slice A3 k c3).ownBlock := fun e => by
  cases A3 with
  | none => simp [Value.ownBlock] at e
  | some a =>
    obtain ⟨_, _, cur', hc⟩ := Own.block hgs.1 a rfl
    simp [Value.ownBlock] at e
    subst e
    rw [hg] at hc
    simp only [Option.some.injEq, Obj.cells.injEq] at hc
    exact ht hc.2.1.symm
theorem OwnV_storeT {w : World} {lo hi cap : Nat} {A : Option Addr} {hs : List ((Bool × Int × Int × Bool) × Option Addr × Nat × List Int)} (h : OwnV w lo hi A cap hs) {p : Addr} {t' : TypeId} {cur' : Array Value} {fz : Nat × Nat} (hp : w.heap[p.block]? = some (.cells cur' t' fz)) (hne : 3 ≠ t') (hne2 : 81 ≠ t') (u : Value) : OwnV (w.setCell p u) lo hi A cap hs :=
  ⟨Own.otherT h.1 hp hne2 u, h.2.storeT hp hne u⟩
/-- A voter appended to the voters of a call. -/
theorem vot_app {W w' : World} {lo m k c3 : Nat} {A3 : Option Addr} {gs : List ((Bool × Int × Int × Bool) × Option Addr × Nat × List Int)} {v' : Value} {x : ((Bool × Int × Int × Bool) × Option Addr × Nat × List Int)} (hgs : OwnV W lo m A3 c3 gs) (hm : m ≤ W.heap.size) (hlo : lo ≤ m) (hx : OwnI W m W.heap.size x.2.1 x.2.2.1 x.2.2.2) (hk : gs.length = k)
    (hown : w'.ownsRow lo 81 5 v' (k + 1) ((gs.map vtCs).flatten ++ vtCs x)) (hgr : W.grownBy w' (Value.slice A3 k c3).ownBlock) : ∃ A c, v' = .slice A (k + 1) c ∧ OwnV w' lo w'.heap.size A c (gs ++ [x]) := by
  have e : (gs.map vtCs).flatten ++ vtCs x = ((gs ++ [x]).map vtCs).flatten := by simp
  rw [e] at hown
  obtain ⟨A, c, hv, hl, ho⟩ := Own.ofRow hown (vtCs_len _) (by decide) (hi := w'.heap.size) (fun k hk => (hown.lt k hk).2)
  rw [List.length_map, List.length_append, hk] at hv
  have hkeep : ∀ (g : Nat) (cur : Array Value), W.heap[g]? = some (Obj.cells cur 3 (0, 0)) → w'.heap[g]? = W.heap[g]? := fun g cur hg => by
    exact hgr.block g (lt_blk hg) (vot_ne hgs hg (by decide))
  have hx2 : OwnI w' m w'.heap.size x.2.1 x.2.2.1 x.2.2.2 := (show OwnI w' m W.heap.size x.2.1 x.2.2.1 x.2.2.2 from Own_keep hx hkeep).wider (Nat.le_refl _) hgr.size
  exact ⟨A, c, hv, ho, YesOwn.snoc ⟨fun y hy => Own_keep (hgs.2.1 y hy) hkeep, hgs.2.2⟩ x hx2 hlo (Nat.le_trans hm hgr.size)⟩

set_option maxRecDepth 100000 in
set_option maxHeartbeats 8000000 in
theorem specNewPoll_any (A : Option Addr) (n c : Nat) (is : List Int) (far : Int) (B : Nat) (w : World) (hn : is.length = n) (h : IntsB w B A is) (hB : B ≤ w.heap.size) (hl : n ≤ 1048576) :
    Calls Try.prog 15 #[.slice A n c, .int .i64 far] w (PAPost (newPA is far) w) := by
  have hb0 := below1 w (.cells #[.slice none 0 0, .int .i64 0, .slice none 0 0, .int .i64 0, .slice none 0 0, .slice none 0 0] 38)
  have hr0 := heap_alloc_new w (.cells #[.slice none 0 0, .int .i64 0, .slice none 0 0, .int .i64 0, .slice none 0 0, .slice none 0 0] 38)
  have HN := Lib.hid (specNewNet_any A n c is far B _ hn (h.below (hb0.mono hB)) (Nat.le_trans hB hb0.size) hl)
  have HB0 := Lib.hid hb0
  have HR0 := Lib.hid hr0
  have HLN := Lib.hid hn
  clear h hb0 hr0
  cases g1 : netB 0 is far [] with
  | false =>
    rw [newPA_no (show newB is far = false by unfold newB; rw [g1]; rfl)]
    rw [newA_no g1] at HN
    unfold NAPost noA at HN
    simp only at HN
    clear g1
    go_enter Try.func15, Try.ntmps15
    go_wp2_with fail
    refine HN.out.mono ?_
    rintro e w1 ⟨A1, c1, A2, c2, rfl, hoi, hol, ha1⟩
    have hx := below1 w1 (.cells #[.int .i64 0, .slice A1 0 c1, .int .i64 0, .slice A2 0 c2] 35)
    have hr1 := (hx.block w.heap.size (Nat.lt_of_lt_of_le (lt_blk HR0.out) ha1.size)).trans ((ha1.block w.heap.size (lt_blk HR0.out)).trans HR0.out)
    have r0 := cell_of_row _ _ 0 _ 38 (0, 0) hr1
    have r1 := cell_of_row _ _ 1 _ 38 (0, 0) hr1
    have r2 := cell_of_row _ _ 2 _ 38 (0, 0) hr1
    have r3 := cell_of_row _ _ 3 _ 38 (0, 0) hr1
    have r4 := cell_of_row _ _ 4 _ 38 (0, 0) hr1
    have r5 := cell_of_row _ _ 5 _ 38 (0, 0) hr1
    have f0 := free_blk hr1 0
    have f1 := free_blk hr1 1
    have f2 := free_blk hr1 2
    have f3 := free_blk hr1 3
    have f4 := free_blk hr1 4
    have f5 := free_blk hr1 5
    have HB1 := Lib.hid (HB0.out.trans ((ha1.trans (hx.mono ha1.size)).mono HB0.out.size))
    clear ha1 hx hr1 hoi hol HN
    simp only [List.length_nil]
    go_wp2
    exact bodyPost_ret (v := .tuple #[.agg #[.slice none 0 0, .int .i64 0, .slice none 0 0, .int .i64 0, .slice none 0 0, .slice none 0 0], .bool false]) (by simp [results, Try.results15, go_sem, r0, r1, r2, r3, r4, r5, f0, f1, f2, f3, f4, f5]) rfl (noP_post (bel_put6 HB1.out (Nat.le_refl _)))
  | true =>
    rw [newA_yes g1] at HN
    unfold NAPost at HN
    simp only [hn] at HN
    have hrw : newB is far = sizeB n := by unfold newB; rw [g1, hn]; rfl
    clear g1
    cases hsz : sizeB n with
    | false =>
      rw [newPA_no (hrw.trans hsz)]
      have hn3 : n ≠ 3 := by intro e; rw [e] at hsz; simp [sizeB] at hsz
      have hn5 : n ≠ 5 := by intro e; rw [e] at hsz; simp [sizeB] at hsz
      have h3 : ((n : Int) != 3) = true := by simp; omega
      have h5 : ((n : Int) != 5) = true := by simp; omega
      clear hsz hrw
      go_enter Try.func15, Try.ntmps15
      go_wp2_with fail
      refine HN.out.mono ?_
      rintro e w1 ⟨A1, c1, A2, c2, rfl, hoi, hol, ha1⟩
      have hx := below1 w1 (.cells #[.int .i64 0, .slice A1 n c1, .int .i64 far, .slice A2 0 c2] 35)
      have hr1 := (hx.block w.heap.size (Nat.lt_of_lt_of_le (lt_blk HR0.out) ha1.size)).trans ((ha1.block w.heap.size (lt_blk HR0.out)).trans HR0.out)
      have r0 := cell_of_row _ _ 0 _ 38 (0, 0) hr1
      have r1 := cell_of_row _ _ 1 _ 38 (0, 0) hr1
      have r2 := cell_of_row _ _ 2 _ 38 (0, 0) hr1
      have r3 := cell_of_row _ _ 3 _ 38 (0, 0) hr1
      have r4 := cell_of_row _ _ 4 _ 38 (0, 0) hr1
      have r5 := cell_of_row _ _ 5 _ 38 (0, 0) hr1
      have f0 := free_blk hr1 0
      have f1 := free_blk hr1 1
      have f2 := free_blk hr1 2
      have f3 := free_blk hr1 3
      have f4 := free_blk hr1 4
      have f5 := free_blk hr1 5
      have HB1 := Lib.hid (HB0.out.trans ((ha1.trans (hx.mono ha1.size)).mono HB0.out.size))
      clear ha1 hx hr1 hoi hol HN
      simp only [List.length_nil]
      go_wp2
      exact bodyPost_ret (v := .tuple #[.agg #[.slice none 0 0, .int .i64 0, .slice none 0 0, .int .i64 0, .slice none 0 0, .slice none 0 0], .bool false]) (by simp [results, Try.results15, go_sem, r0, r1, r2, r3, r4, r5, f0, f1, f2, f3, f4, f5]) rfl (noP_post (bel_put6 HB1.out (Nat.le_refl _)))
    | true =>
      rw [newPA_yes (hrw.trans hsz)]
      clear hrw
      have hN : n = 3 ∨ n = 5 := by simpa [sizeB] using hsz
      rcases hN with rfl | rfl
      · clear hsz
        go_enter Try.func15, Try.ntmps15
        go_wp2_with fail
        refine HN.out.mono ?_
        rintro e w1 ⟨A1, c1, A2, c2, rfl, hoi, hol, ha1⟩
        have hgr : w.heap.size < w1.heap.size := Nat.lt_of_lt_of_le (lt_blk HR0.out) ha1.size
        have HA1 := Lib.hid ha1
        have HOI := Lib.hid hoi
        have HOL := Lib.hid hol
        clear ha1 hoi hol HN
        simp only [List.length_nil]
        go_wp2_with fail
        obtain ⟨W4, hW4⟩ : ∃ W4, W4 = ((((w1.alloc (.cells #[.int .i64 0, .slice A1 3 c1, .int .i64 far, .slice A2 0 c2] 35)).alloc (.cells #[] 81)).alloc (.cells #[] 89)).alloc (.cells #[.slice (some ⟨w1.heap.size + 1, 0, none⟩) 0 0, .int .i64 0, .slice A1 3 c1, .int .i64 far, .slice A2 0 c2, .slice (some ⟨w1.heap.size + 1 + 1, 0, none⟩) 0 0] 38)) := ⟨_, rfl⟩
        have HW4 := Lib.hid hW4
        have hx4 : Below w1.heap.size w1 W4 := by rw [hW4]; exact ((((Below.refl _ _).alloc (Nat.le_refl _) _).alloc (by simp only [World.size_alloc]; omega) _).alloc (by simp only [World.size_alloc]; omega) _).alloc (by simp only [World.size_alloc]; omega) _
        have hz4 : W4.heap.size = w1.heap.size + 4 := by rw [hW4]; simp
        obtain ⟨gl, hgl⟩ : ∃ gl, gl = w1.heap.size + 1 + 1 + 1 := ⟨_, rfl⟩
        have hK4 : W4.heap[gl]? = some (.cells #[.slice (some ⟨w1.heap.size + 1, 0, none⟩) 0 0, .int .i64 0, .slice A1 3 c1, .int .i64 far, .slice A2 0 c2, .slice (some ⟨w1.heap.size + 1 + 1, 0, none⟩) 0 0] 38) := by rw [hW4, hgl]; have := heap_alloc_new (((w1.alloc (.cells #[.int .i64 0, .slice A1 3 c1, .int .i64 far, .slice A2 0 c2] 35)).alloc (.cells #[] 81)).alloc (.cells #[] 89)) (.cells #[.slice (some ⟨w1.heap.size + 1, 0, none⟩) 0 0, .int .i64 0, .slice A1 3 c1, .int .i64 far, .slice A2 0 c2, .slice (some ⟨w1.heap.size + 1 + 1, 0, none⟩) 0 0] 38); simpa only [World.size_alloc] using this
        rw [← hW4, ← hgl]
        have hsw : (w.alloc (.cells #[.slice none 0 0, .int .i64 0, .slice none 0 0, .int .i64 0, .slice none 0 0, .slice none 0 0] 38)).heap.size = w.heap.size + 1 := by simp
        have HB4 := Lib.hid (HB0.out.trans ((HA1.out.trans (hx4.mono HA1.out.size)).mono HB0.out.size))
        have HR4 := Lib.hid ((hx4.block w.heap.size hgr).trans ((HA1.out.block w.heap.size (lt_blk HR0.out)).trans HR0.out))
        have HI4 := Lib.hid (show OwnI W4 (w.heap.size + 1) w1.heap.size A1 c1 is from (OwnI.below HOI.out hx4).wider (by omega) (Nat.le_refl _))
        have HL4 := Lib.hid (show OwnL W4 (w.heap.size + 1) w1.heap.size A2 c2 [] from (OwnL.below HOL.out hx4).wider (by omega) (Nat.le_refl _))
        have hv4 : W4.heap[w1.heap.size + 1]? = some (.cells #[] 81) := by
          rw [hW4]
          have h1 := heap_alloc_new (w1.alloc (.cells #[.int .i64 0, .slice A1 3 c1, .int .i64 far, .slice A2 0 c2] 35)) (.cells #[] 81)
          have h2 := (below2 ((w1.alloc (.cells #[.int .i64 0, .slice A1 3 c1, .int .i64 far, .slice A2 0 c2] 35)).alloc (.cells #[] 81)) (.cells #[] 89) (.cells #[.slice (some ⟨w1.heap.size + 1, 0, none⟩) 0 0, .int .i64 0, .slice A1 3 c1, .int .i64 far, .slice A2 0 c2, .slice (some ⟨w1.heap.size + 1 + 1, 0, none⟩) 0 0] 38)).block (w1.heap.size + 1) (by simp)
          rw [h2]; simpa only [World.size_alloc] using h1
        have hn4 : W4.heap[w1.heap.size + 1 + 1]? = some (.cells #[] 89) := by
          rw [hW4]
          have h1 := heap_alloc_new ((w1.alloc (.cells #[.int .i64 0, .slice A1 3 c1, .int .i64 far, .slice A2 0 c2] 35)).alloc (.cells #[] 81)) (.cells #[] 89)
          have h2 := (below1 (((w1.alloc (.cells #[.int .i64 0, .slice A1 3 c1, .int .i64 far, .slice A2 0 c2] 35)).alloc (.cells #[] 81)).alloc (.cells #[] 89)) (.cells #[.slice (some ⟨w1.heap.size + 1, 0, none⟩) 0 0, .int .i64 0, .slice A1 3 c1, .int .i64 far, .slice A2 0 c2, .slice (some ⟨w1.heap.size + 1 + 1, 0, none⟩) 0 0] 38)).block (w1.heap.size + 1 + 1) (by simp)
          rw [h2]; simpa only [World.size_alloc] using h1
        have HN4 := Lib.hid (show OwnN W4 w1.heap.size gl (some ⟨w1.heap.size + 1 + 1, 0, none⟩) 0 [] from .inr ⟨_, #[], rfl, by omega, by omega, hn4, by simp, by unfold maxLen; omega, by simp, fun j hj => by simp at hj⟩)
        have HV4 := Lib.hid (show OwnV W4 w1.heap.size W4.heap.size (some ⟨w1.heap.size + 1, 0, none⟩) 0 [] from ⟨.inr ⟨_, #[], rfl, by omega, by omega, hv4, by simp, by unfold maxLen; omega, by simp, fun j hj => by simp at hj⟩, YesOwn.nil⟩)
        have HK4 := Lib.hid hK4
        have HGL := Lib.hid hgl
        have hgz : gl < W4.heap.size := by omega
        have hlg : w1.heap.size < gl := by omega
        clear hW4 HW4 hx4 hsw hv4 hn4 hK4 HOI HOL HA1 hz4 hgl
        go_loopw [9] (fun v wr => ∃ (k : Nat) (A3 : Option Addr) (c3 : Nat) (gs : List ((Bool × Int × Int × Bool) × Option Addr × Nat × List Int)), k ≤ 3 ∧ v = .int .i64 (k : Int) ∧ Hid (gs.length = k) ∧ Hid (gs.map vdat = List.replicate k (vdat vt0)) ∧ Hid (OwnV wr w1.heap.size wr.heap.size A3 c3 gs) ∧ Hid (OwnN wr w1.heap.size wr.heap.size (some ⟨w1.heap.size + 1 + 1, 0, none⟩) 0 []) ∧ Hid (wr.heap[gl]? = some (.cells #[.slice A3 k c3, .int .i64 0, .slice A1 3 c1, .int .i64 far, .slice A2 0 c2, .slice (some ⟨w1.heap.size + 1 + 1, 0, none⟩) 0 0] 38)) ∧ Below w1.heap.size W4 wr) (fun v _ => 3 - (intOf v).toNat)
        case atStart => exact ⟨0, some ⟨w1.heap.size + 1, 0, none⟩, 0, [], by omega, rfl, rfl, rfl, HV4.out, OwnN.wider HN4.out (Nat.le_refl _) (Nat.le_of_lt hgz), HK4.out, Below.refl _ _⟩
        case round =>
          clear HV4 HK4 HN4
          obtain ⟨k, A3, c3, gs, hk, rfl, HGS, HDT, HVO, HNO, HKK, hbw⟩ := hrel
          have hgz2 : gl < wr.heap.size := lt_blk HKK.out
          by_cases hlt : k < 3
          · have y0 := cell_of_row _ _ 0 _ 38 (0, 0) HKK.out
            have y1 := free_blk HKK.out 0
            simp only [List.getElem?_toArray, List.getElem?_cons_zero, List.getElem?_cons_succ] at y0
            have HBW := Lib.hid hbw
            clear hbw
            have hba : Below wr.heap.size wr (wr.alloc (.cells #[] 3)) := below1 _ _
            have hbx : Below wr.heap.size wr ((wr.alloc (.cells #[] 3)).alloc (.cells #[.bool true, .int .i64 0, .int .i64 (-1), .slice (some ⟨wr.heap.size, 0, none⟩) 0 0, .bool false] 81)) := below2 _ _ _
            have hwa : ((wr.alloc (.cells #[] 3)).alloc (.cells #[.bool true, .int .i64 0, .int .i64 (-1), .slice (some ⟨wr.heap.size, 0, none⟩) 0 0, .bool false] 81)).heap.size = wr.heap.size + 2 := by simp
            have hkk := HGS.out
            have hrow : ((wr.alloc (.cells #[] 3)).alloc (.cells #[.bool true, .int .i64 0, .int .i64 (-1), .slice (some ⟨wr.heap.size, 0, none⟩) 0 0, .bool false] 81)).ownsRow w1.heap.size 81 5 (.slice A3 k c3) k ((gs.map vtCs).flatten) := by
              have := Own.toRow (HVO.out.1.below hbx) (vtCs_len _) (by decide)
              rw [List.length_map, hkk] at this
              exact this
            have HROW := Lib.hid hrow
            have HNEW := Lib.hid (show ((wr.alloc (.cells #[] 3)).alloc (.cells #[.bool true, .int .i64 0, .int .i64 (-1), .slice (some ⟨wr.heap.size, 0, none⟩) 0 0, .bool false] 81)).heap[wr.heap.size + 1]? = some (.cells #[.bool true, .int .i64 0, .int .i64 (-1), .slice (some ⟨wr.heap.size, 0, none⟩) 0 0, .bool false] 81 (0, 0)) by
              have := heap_alloc_new (wr.alloc (.cells #[] 3)) (.cells #[.bool true, .int .i64 0, .int .i64 (-1), .slice (some ⟨wr.heap.size, 0, none⟩) 0 0, .bool false] 81)
              simpa only [World.size_alloc] using this)
            have HYE := Lib.hid (show OwnI ((wr.alloc (.cells #[] 3)).alloc (.cells #[.bool true, .int .i64 0, .int .i64 (-1), .slice (some ⟨wr.heap.size, 0, none⟩) 0 0, .bool false] 81)) wr.heap.size ((wr.alloc (.cells #[] 3)).alloc (.cells #[.bool true, .int .i64 0, .int .i64 (-1), .slice (some ⟨wr.heap.size, 0, none⟩) 0 0, .bool false] 81)).heap.size (some ⟨wr.heap.size, 0, none⟩) 0 [] from
              OwnI.wider (OwnI.below (nil_ownI wr) ((below1 _ _))) (Nat.le_refl _) (by simp [World]))
            clear hrow hkk
            obtain ⟨i0, hi0, hz0, hz1, hz2⟩ := info_parts infoVot
            go_wp2_with (at_builtin; refine wpList_app rfl (.tmp 40) (.tmp 43) 32 rfl w1.heap.size 81 i0 _ 5 56 Try.underlying32 hi0 hz0 hz1 hz2 rfl (by decide) (.slice A3 k c3) k ((gs.map vtCs).flatten) rfl HROW.out (some ⟨wr.heap.size + 1, 0, none⟩) 1 1 (vtCs ((true, 0, -1, false), some ⟨wr.heap.size, 0, none⟩, 0, [])) rfl rfl (fun _ => ⟨_, rfl, World.news_of_block (cs := #[.bool true, .int .i64 0, .int .i64 (-1), .slice (some ⟨wr.heap.size, 0, none⟩) 0 0, .bool false]) (t := 81) (fr := (0, 0)) HNEW.out⟩) (by simp [vtCs, Value.oneCell']) (by unfold maxLen; omega) (by omega) (by have := hwa; omega) ?_; intro v6 w6 hown6 hgr6 hat6; obtain ⟨A6, c6, rfl, hov6⟩ := vot_app (x := ((true, 0, -1, false), some ⟨wr.heap.size, 0, none⟩, 0, [])) (m := wr.heap.size) (HVO.out.below hbx) (by omega) (by omega) HYE.out HGS.out hown6 hgr6; have hgl6 := (hgr6.block gl (by omega) (vot_ne (HVO.out.below hbx) ((hbx.block gl hgz2).trans HKK.out) (by decide))).trans ((hbx.block gl hgz2).trans HKK.out); have y6 := cell_of_row _ _ 0 _ 38 (0, 0) hgl6; have z6 := free_blk hgl6 0)
            have hno6 : OwnN w6 w1.heap.size w6.heap.size (some ⟨w1.heap.size + 1 + 1, 0, none⟩) 0 [] :=
              OwnN.wider (Own_keep (HNO.out.below hbx) (fun g cur hg => hgr6.block g (lt_blk hg) (vot_ne (HVO.out.below hbx) hg (by decide)))) (Nat.le_refl _) (by have := hgr6.size; omega)
            have hb6 : Below w1.heap.size W4 w6 := (HBW.out.trans (hbx.mono (by omega))).grown hgr6 (by have := HBW.out.size; omega) (fun q hq => (HROW.out.lt q hq).1)
            have HV7 := Lib.hid (show OwnV (w6.setCell ⟨gl, 0, none⟩ (.slice A6 (k + 1) c6)) w1.heap.size (w6.setCell ⟨gl, 0, none⟩ (.slice A6 (k + 1) c6)).heap.size A6 c6 (gs ++ [(((true, 0, -1, false), some ⟨wr.heap.size, 0, none⟩, 0, []) : ((Bool × Int × Int × Bool) × Option Addr × Nat × List Int))]) from (OwnV_storeT (p := ⟨gl, 0, none⟩) hov6 hgl6 (by decide) (by decide) _).wider (Nat.le_refl _) (by simp [World.setCell]))
            have HN7 := Lib.hid (show OwnN (w6.setCell ⟨gl, 0, none⟩ (.slice A6 (k + 1) c6)) w1.heap.size (w6.setCell ⟨gl, 0, none⟩ (.slice A6 (k + 1) c6)).heap.size (some ⟨w1.heap.size + 1 + 1, 0, none⟩) 0 [] from OwnN.wider (Own.otherT (p := ⟨gl, 0, none⟩) hno6 hgl6 (by decide) _) (Nat.le_refl _) (by simp [World.setCell]))
            have HK7 := Lib.hid (set_blk (i := 0) (v := .slice A6 (k + 1) c6) hgl6)
            have HB7 := Lib.hid (hb6.setCell (p := ⟨gl, 0, none⟩) (by show w1.heap.size ≤ gl; omega) (.slice A6 (k + 1) c6))
            have HG7 := Lib.hid (show (gs ++ [(((true, 0, -1, false), some ⟨wr.heap.size, 0, none⟩, 0, []) : ((Bool × Int × Int × Bool) × Option Addr × Nat × List Int))]).length = k + 1 by rw [List.length_append, HGS.out]; rfl)
            have HD7 := Lib.hid (show (gs ++ [(((true, 0, -1, false), some ⟨wr.heap.size, 0, none⟩, 0, []) : ((Bool × Int × Int × Bool) × Option Addr × Nat × List Int))]).map vdat = List.replicate (k + 1) (vdat vt0) by rw [List.map_append, HDT.out, List.replicate_succ']; rfl)
            clear hno6 hb6 hov6 hgl6 hown6 hgr6 hat6
            go_roundw
            case rel => exact ⟨k + 1, A6, c6, _, by omega, by go_num, HG7, HD7, HV7, HN7, by simpa using HK7, HB7.out⟩
            case measure => simp [intOf]; omega
          · have hk3 : k = 3 := by omega
            subst hk3
            clear hlt hk
            have hr5 := (hbw.block w.heap.size hgr).trans HR4.out
            have hws := hbw.size
            have HOP : OwnP wr (w.heap.size + 1) wr.heap.size A3 c3 gs A1 c1 is A2 c2 [] (some ⟨w1.heap.size + 1 + 1, 0, none⟩) 0 [] :=
              ⟨HVO.out.wider hgr (Nat.le_refl _), (OwnI.below HI4.out hbw).wider (Nat.le_refl _) (by omega), (OwnL.below HL4.out hbw).wider (Nat.le_refl _) (by omega), OwnN.wider HNO.out hgr (Nat.le_refl _), by
                intro h hh x y hx hy
                have h1 := (Own.block (HVO.out.2.1 h hh) x hx).1
                have h2 := (Own.block HI4.out y hy).2.1
                omega⟩
            have HP : OwnP (put6 wr w.heap.size (.slice A3 3 c3) (.int .i64 0) (.slice A1 3 c1) (.int .i64 far) (.slice A2 0 c2) (.slice (some ⟨w1.heap.size + 1 + 1, 0, none⟩) 0 0)) w.heap.size (put6 wr w.heap.size (.slice A3 3 c3) (.int .i64 0) (.slice A1 3 c1) (.int .i64 far) (.slice A2 0 c2) (.slice (some ⟨w1.heap.size + 1 + 1, 0, none⟩) 0 0)).heap.size A3 c3 gs A1 c1 is A2 c2 [] (some ⟨w1.heap.size + 1 + 1, 0, none⟩) 0 [] :=
              (own_put6 HOP (Nat.lt_succ_self _)).wider (Nat.le_succ _) (Nat.le_of_eq put6_size.symm)
            have HPP := Lib.hid (show PAPost (List.replicate is.length (vdat vt0), 0, is, far, [], [], true) w (.returned (.tuple #[.agg #[.slice A3 3 c3, .int .i64 0, .slice A1 3 c1, .int .i64 far, .slice A2 0 c2, .slice (some ⟨w1.heap.size + 1 + 1, 0, none⟩) 0 0], .bool true])) (put6 wr w.heap.size (.slice A3 3 c3) (.int .i64 0) (.slice A1 3 c1) (.int .i64 far) (.slice A2 0 c2) (.slice (some ⟨w1.heap.size + 1 + 1, 0, none⟩) 0 0)) from by
              refine ⟨A3, c3, gs, A1, c1, A2, c2, some ⟨w1.heap.size + 1 + 1, 0, none⟩, 0, ?_, ?_, HP, ?_⟩
              · simp [HLN.out]
              · rw [HLN.out]; exact HDT.out
              · exact bel_put6 (HB4.out.trans (hbw.mono (Nat.le_of_lt hgr))) (Nat.le_refl _))
            have y0 := cell_of_row _ _ 0 _ 38 (0, 0) HKK.out
            have y1 := cell_of_row _ _ 1 _ 38 (0, 0) HKK.out
            have y2 := cell_of_row _ _ 2 _ 38 (0, 0) HKK.out
            have y3 := cell_of_row _ _ 3 _ 38 (0, 0) HKK.out
            have y4 := cell_of_row _ _ 4 _ 38 (0, 0) HKK.out
            have y5 := cell_of_row _ _ 5 _ 38 (0, 0) HKK.out
            have r0 := cell_of_row _ _ 0 _ 38 (0, 0) hr5
            have r1 := cell_of_row _ _ 1 _ 38 (0, 0) hr5
            have r2 := cell_of_row _ _ 2 _ 38 (0, 0) hr5
            have r3 := cell_of_row _ _ 3 _ 38 (0, 0) hr5
            have r4 := cell_of_row _ _ 4 _ 38 (0, 0) hr5
            have r5 := cell_of_row _ _ 5 _ 38 (0, 0) hr5
            have f0 := free_blk hr5 0
            have f1 := free_blk hr5 1
            have f2 := free_blk hr5 2
            have f3 := free_blk hr5 3
            have f4 := free_blk hr5 4
            have f5 := free_blk hr5 5
            clear hr5 hws HOP HP hbw
            go_wp2
            exact bodyPost_ret (v := .tuple #[.agg #[.slice A3 3 c3, .int .i64 0, .slice A1 3 c1, .int .i64 far, .slice A2 0 c2, .slice (some ⟨w1.heap.size + 1 + 1, 0, none⟩) 0 0], .bool true]) (by simp [results, Try.results15, go_sem, r0, r1, r2, r3, r4, r5, f0, f1, f2, f3, f4, f5]) rfl HPP.out
      · clear hsz
        go_enter Try.func15, Try.ntmps15
        go_wp2_with fail
        refine HN.out.mono ?_
        rintro e w1 ⟨A1, c1, A2, c2, rfl, hoi, hol, ha1⟩
        have hgr : w.heap.size < w1.heap.size := Nat.lt_of_lt_of_le (lt_blk HR0.out) ha1.size
        have HA1 := Lib.hid ha1
        have HOI := Lib.hid hoi
        have HOL := Lib.hid hol
        clear ha1 hoi hol HN
        simp only [List.length_nil]
        go_wp2_with fail
        obtain ⟨W4, hW4⟩ : ∃ W4, W4 = ((((w1.alloc (.cells #[.int .i64 0, .slice A1 5 c1, .int .i64 far, .slice A2 0 c2] 35)).alloc (.cells #[] 81)).alloc (.cells #[] 89)).alloc (.cells #[.slice (some ⟨w1.heap.size + 1, 0, none⟩) 0 0, .int .i64 0, .slice A1 5 c1, .int .i64 far, .slice A2 0 c2, .slice (some ⟨w1.heap.size + 1 + 1, 0, none⟩) 0 0] 38)) := ⟨_, rfl⟩
        have HW4 := Lib.hid hW4
        have hx4 : Below w1.heap.size w1 W4 := by rw [hW4]; exact ((((Below.refl _ _).alloc (Nat.le_refl _) _).alloc (by simp only [World.size_alloc]; omega) _).alloc (by simp only [World.size_alloc]; omega) _).alloc (by simp only [World.size_alloc]; omega) _
        have hz4 : W4.heap.size = w1.heap.size + 4 := by rw [hW4]; simp
        obtain ⟨gl, hgl⟩ : ∃ gl, gl = w1.heap.size + 1 + 1 + 1 := ⟨_, rfl⟩
        have hK4 : W4.heap[gl]? = some (.cells #[.slice (some ⟨w1.heap.size + 1, 0, none⟩) 0 0, .int .i64 0, .slice A1 5 c1, .int .i64 far, .slice A2 0 c2, .slice (some ⟨w1.heap.size + 1 + 1, 0, none⟩) 0 0] 38) := by rw [hW4, hgl]; have := heap_alloc_new (((w1.alloc (.cells #[.int .i64 0, .slice A1 5 c1, .int .i64 far, .slice A2 0 c2] 35)).alloc (.cells #[] 81)).alloc (.cells #[] 89)) (.cells #[.slice (some ⟨w1.heap.size + 1, 0, none⟩) 0 0, .int .i64 0, .slice A1 5 c1, .int .i64 far, .slice A2 0 c2, .slice (some ⟨w1.heap.size + 1 + 1, 0, none⟩) 0 0] 38); simpa only [World.size_alloc] using this
        rw [← hW4, ← hgl]
        have hsw : (w.alloc (.cells #[.slice none 0 0, .int .i64 0, .slice none 0 0, .int .i64 0, .slice none 0 0, .slice none 0 0] 38)).heap.size = w.heap.size + 1 := by simp
        have HB4 := Lib.hid (HB0.out.trans ((HA1.out.trans (hx4.mono HA1.out.size)).mono HB0.out.size))
        have HR4 := Lib.hid ((hx4.block w.heap.size hgr).trans ((HA1.out.block w.heap.size (lt_blk HR0.out)).trans HR0.out))
        have HI4 := Lib.hid (show OwnI W4 (w.heap.size + 1) w1.heap.size A1 c1 is from (OwnI.below HOI.out hx4).wider (by omega) (Nat.le_refl _))
        have HL4 := Lib.hid (show OwnL W4 (w.heap.size + 1) w1.heap.size A2 c2 [] from (OwnL.below HOL.out hx4).wider (by omega) (Nat.le_refl _))
        have hv4 : W4.heap[w1.heap.size + 1]? = some (.cells #[] 81) := by
          rw [hW4]
          have h1 := heap_alloc_new (w1.alloc (.cells #[.int .i64 0, .slice A1 5 c1, .int .i64 far, .slice A2 0 c2] 35)) (.cells #[] 81)
          have h2 := (below2 ((w1.alloc (.cells #[.int .i64 0, .slice A1 5 c1, .int .i64 far, .slice A2 0 c2] 35)).alloc (.cells #[] 81)) (.cells #[] 89) (.cells #[.slice (some ⟨w1.heap.size + 1, 0, none⟩) 0 0, .int .i64 0, .slice A1 5 c1, .int .i64 far, .slice A2 0 c2, .slice (some ⟨w1.heap.size + 1 + 1, 0, none⟩) 0 0] 38)).block (w1.heap.size + 1) (by simp)
          rw [h2]; simpa only [World.size_alloc] using h1
        have hn4 : W4.heap[w1.heap.size + 1 + 1]? = some (.cells #[] 89) := by
          rw [hW4]
          have h1 := heap_alloc_new ((w1.alloc (.cells #[.int .i64 0, .slice A1 5 c1, .int .i64 far, .slice A2 0 c2] 35)).alloc (.cells #[] 81)) (.cells #[] 89)
          have h2 := (below1 (((w1.alloc (.cells #[.int .i64 0, .slice A1 5 c1, .int .i64 far, .slice A2 0 c2] 35)).alloc (.cells #[] 81)).alloc (.cells #[] 89)) (.cells #[.slice (some ⟨w1.heap.size + 1, 0, none⟩) 0 0, .int .i64 0, .slice A1 5 c1, .int .i64 far, .slice A2 0 c2, .slice (some ⟨w1.heap.size + 1 + 1, 0, none⟩) 0 0] 38)).block (w1.heap.size + 1 + 1) (by simp)
          rw [h2]; simpa only [World.size_alloc] using h1
        have HN4 := Lib.hid (show OwnN W4 w1.heap.size gl (some ⟨w1.heap.size + 1 + 1, 0, none⟩) 0 [] from .inr ⟨_, #[], rfl, by omega, by omega, hn4, by simp, by unfold maxLen; omega, by simp, fun j hj => by simp at hj⟩)
        have HV4 := Lib.hid (show OwnV W4 w1.heap.size W4.heap.size (some ⟨w1.heap.size + 1, 0, none⟩) 0 [] from ⟨.inr ⟨_, #[], rfl, by omega, by omega, hv4, by simp, by unfold maxLen; omega, by simp, fun j hj => by simp at hj⟩, YesOwn.nil⟩)
        have HK4 := Lib.hid hK4
        have HGL := Lib.hid hgl
        have hgz : gl < W4.heap.size := by omega
        have hlg : w1.heap.size < gl := by omega
        clear hW4 HW4 hx4 hsw hv4 hn4 hK4 HOI HOL HA1 hz4 hgl
        go_loopw [9] (fun v wr => ∃ (k : Nat) (A3 : Option Addr) (c3 : Nat) (gs : List ((Bool × Int × Int × Bool) × Option Addr × Nat × List Int)), k ≤ 5 ∧ v = .int .i64 (k : Int) ∧ Hid (gs.length = k) ∧ Hid (gs.map vdat = List.replicate k (vdat vt0)) ∧ Hid (OwnV wr w1.heap.size wr.heap.size A3 c3 gs) ∧ Hid (OwnN wr w1.heap.size wr.heap.size (some ⟨w1.heap.size + 1 + 1, 0, none⟩) 0 []) ∧ Hid (wr.heap[gl]? = some (.cells #[.slice A3 k c3, .int .i64 0, .slice A1 5 c1, .int .i64 far, .slice A2 0 c2, .slice (some ⟨w1.heap.size + 1 + 1, 0, none⟩) 0 0] 38)) ∧ Below w1.heap.size W4 wr) (fun v _ => 5 - (intOf v).toNat)
        case atStart => exact ⟨0, some ⟨w1.heap.size + 1, 0, none⟩, 0, [], by omega, rfl, rfl, rfl, HV4.out, OwnN.wider HN4.out (Nat.le_refl _) (Nat.le_of_lt hgz), HK4.out, Below.refl _ _⟩
        case round =>
          clear HV4 HK4 HN4
          obtain ⟨k, A3, c3, gs, hk, rfl, HGS, HDT, HVO, HNO, HKK, hbw⟩ := hrel
          have hgz2 : gl < wr.heap.size := lt_blk HKK.out
          by_cases hlt : k < 5
          · have y0 := cell_of_row _ _ 0 _ 38 (0, 0) HKK.out
            have y1 := free_blk HKK.out 0
            simp only [List.getElem?_toArray, List.getElem?_cons_zero, List.getElem?_cons_succ] at y0
            have HBW := Lib.hid hbw
            clear hbw
            have hba : Below wr.heap.size wr (wr.alloc (.cells #[] 3)) := below1 _ _
            have hbx : Below wr.heap.size wr ((wr.alloc (.cells #[] 3)).alloc (.cells #[.bool true, .int .i64 0, .int .i64 (-1), .slice (some ⟨wr.heap.size, 0, none⟩) 0 0, .bool false] 81)) := below2 _ _ _
            have hwa : ((wr.alloc (.cells #[] 3)).alloc (.cells #[.bool true, .int .i64 0, .int .i64 (-1), .slice (some ⟨wr.heap.size, 0, none⟩) 0 0, .bool false] 81)).heap.size = wr.heap.size + 2 := by simp
            have hkk := HGS.out
            have hrow : ((wr.alloc (.cells #[] 3)).alloc (.cells #[.bool true, .int .i64 0, .int .i64 (-1), .slice (some ⟨wr.heap.size, 0, none⟩) 0 0, .bool false] 81)).ownsRow w1.heap.size 81 5 (.slice A3 k c3) k ((gs.map vtCs).flatten) := by
              have := Own.toRow (HVO.out.1.below hbx) (vtCs_len _) (by decide)
              rw [List.length_map, hkk] at this
              exact this
            have HROW := Lib.hid hrow
            have HNEW := Lib.hid (show ((wr.alloc (.cells #[] 3)).alloc (.cells #[.bool true, .int .i64 0, .int .i64 (-1), .slice (some ⟨wr.heap.size, 0, none⟩) 0 0, .bool false] 81)).heap[wr.heap.size + 1]? = some (.cells #[.bool true, .int .i64 0, .int .i64 (-1), .slice (some ⟨wr.heap.size, 0, none⟩) 0 0, .bool false] 81 (0, 0)) by
              have := heap_alloc_new (wr.alloc (.cells #[] 3)) (.cells #[.bool true, .int .i64 0, .int .i64 (-1), .slice (some ⟨wr.heap.size, 0, none⟩) 0 0, .bool false] 81)
              simpa only [World.size_alloc] using this)
            have HYE := Lib.hid (show OwnI ((wr.alloc (.cells #[] 3)).alloc (.cells #[.bool true, .int .i64 0, .int .i64 (-1), .slice (some ⟨wr.heap.size, 0, none⟩) 0 0, .bool false] 81)) wr.heap.size ((wr.alloc (.cells #[] 3)).alloc (.cells #[.bool true, .int .i64 0, .int .i64 (-1), .slice (some ⟨wr.heap.size, 0, none⟩) 0 0, .bool false] 81)).heap.size (some ⟨wr.heap.size, 0, none⟩) 0 [] from
              OwnI.wider (OwnI.below (nil_ownI wr) ((below1 _ _))) (Nat.le_refl _) (by simp [World]))
            clear hrow hkk
            obtain ⟨i0, hi0, hz0, hz1, hz2⟩ := info_parts infoVot
            go_wp2_with (at_builtin; refine wpList_app rfl (.tmp 40) (.tmp 43) 32 rfl w1.heap.size 81 i0 _ 5 56 Try.underlying32 hi0 hz0 hz1 hz2 rfl (by decide) (.slice A3 k c3) k ((gs.map vtCs).flatten) rfl HROW.out (some ⟨wr.heap.size + 1, 0, none⟩) 1 1 (vtCs ((true, 0, -1, false), some ⟨wr.heap.size, 0, none⟩, 0, [])) rfl rfl (fun _ => ⟨_, rfl, World.news_of_block (cs := #[.bool true, .int .i64 0, .int .i64 (-1), .slice (some ⟨wr.heap.size, 0, none⟩) 0 0, .bool false]) (t := 81) (fr := (0, 0)) HNEW.out⟩) (by simp [vtCs, Value.oneCell']) (by unfold maxLen; omega) (by omega) (by have := hwa; omega) ?_; intro v6 w6 hown6 hgr6 hat6; obtain ⟨A6, c6, rfl, hov6⟩ := vot_app (x := ((true, 0, -1, false), some ⟨wr.heap.size, 0, none⟩, 0, [])) (m := wr.heap.size) (HVO.out.below hbx) (by omega) (by omega) HYE.out HGS.out hown6 hgr6; have hgl6 := (hgr6.block gl (by omega) (vot_ne (HVO.out.below hbx) ((hbx.block gl hgz2).trans HKK.out) (by decide))).trans ((hbx.block gl hgz2).trans HKK.out); have y6 := cell_of_row _ _ 0 _ 38 (0, 0) hgl6; have z6 := free_blk hgl6 0)
            have hno6 : OwnN w6 w1.heap.size w6.heap.size (some ⟨w1.heap.size + 1 + 1, 0, none⟩) 0 [] :=
              OwnN.wider (Own_keep (HNO.out.below hbx) (fun g cur hg => hgr6.block g (lt_blk hg) (vot_ne (HVO.out.below hbx) hg (by decide)))) (Nat.le_refl _) (by have := hgr6.size; omega)
            have hb6 : Below w1.heap.size W4 w6 := (HBW.out.trans (hbx.mono (by omega))).grown hgr6 (by have := HBW.out.size; omega) (fun q hq => (HROW.out.lt q hq).1)
            have HV7 := Lib.hid (show OwnV (w6.setCell ⟨gl, 0, none⟩ (.slice A6 (k + 1) c6)) w1.heap.size (w6.setCell ⟨gl, 0, none⟩ (.slice A6 (k + 1) c6)).heap.size A6 c6 (gs ++ [(((true, 0, -1, false), some ⟨wr.heap.size, 0, none⟩, 0, []) : ((Bool × Int × Int × Bool) × Option Addr × Nat × List Int))]) from (OwnV_storeT (p := ⟨gl, 0, none⟩) hov6 hgl6 (by decide) (by decide) _).wider (Nat.le_refl _) (by simp [World.setCell]))
            have HN7 := Lib.hid (show OwnN (w6.setCell ⟨gl, 0, none⟩ (.slice A6 (k + 1) c6)) w1.heap.size (w6.setCell ⟨gl, 0, none⟩ (.slice A6 (k + 1) c6)).heap.size (some ⟨w1.heap.size + 1 + 1, 0, none⟩) 0 [] from OwnN.wider (Own.otherT (p := ⟨gl, 0, none⟩) hno6 hgl6 (by decide) _) (Nat.le_refl _) (by simp [World.setCell]))
            have HK7 := Lib.hid (set_blk (i := 0) (v := .slice A6 (k + 1) c6) hgl6)
            have HB7 := Lib.hid (hb6.setCell (p := ⟨gl, 0, none⟩) (by show w1.heap.size ≤ gl; omega) (.slice A6 (k + 1) c6))
            have HG7 := Lib.hid (show (gs ++ [(((true, 0, -1, false), some ⟨wr.heap.size, 0, none⟩, 0, []) : ((Bool × Int × Int × Bool) × Option Addr × Nat × List Int))]).length = k + 1 by rw [List.length_append, HGS.out]; rfl)
            have HD7 := Lib.hid (show (gs ++ [(((true, 0, -1, false), some ⟨wr.heap.size, 0, none⟩, 0, []) : ((Bool × Int × Int × Bool) × Option Addr × Nat × List Int))]).map vdat = List.replicate (k + 1) (vdat vt0) by rw [List.map_append, HDT.out, List.replicate_succ']; rfl)
            clear hno6 hb6 hov6 hgl6 hown6 hgr6 hat6
            go_roundw
            case rel => exact ⟨k + 1, A6, c6, _, by omega, by go_num, HG7, HD7, HV7, HN7, by simpa using HK7, HB7.out⟩
            case measure => simp [intOf]; omega
          · have hk3 : k = 5 := by omega
            subst hk3
            clear hlt hk
            have hr5 := (hbw.block w.heap.size hgr).trans HR4.out
            have hws := hbw.size
            have HOP : OwnP wr (w.heap.size + 1) wr.heap.size A3 c3 gs A1 c1 is A2 c2 [] (some ⟨w1.heap.size + 1 + 1, 0, none⟩) 0 [] :=
              ⟨HVO.out.wider hgr (Nat.le_refl _), (OwnI.below HI4.out hbw).wider (Nat.le_refl _) (by omega), (OwnL.below HL4.out hbw).wider (Nat.le_refl _) (by omega), OwnN.wider HNO.out hgr (Nat.le_refl _), by
                intro h hh x y hx hy
                have h1 := (Own.block (HVO.out.2.1 h hh) x hx).1
                have h2 := (Own.block HI4.out y hy).2.1
                omega⟩
            have HP : OwnP (put6 wr w.heap.size (.slice A3 5 c3) (.int .i64 0) (.slice A1 5 c1) (.int .i64 far) (.slice A2 0 c2) (.slice (some ⟨w1.heap.size + 1 + 1, 0, none⟩) 0 0)) w.heap.size (put6 wr w.heap.size (.slice A3 5 c3) (.int .i64 0) (.slice A1 5 c1) (.int .i64 far) (.slice A2 0 c2) (.slice (some ⟨w1.heap.size + 1 + 1, 0, none⟩) 0 0)).heap.size A3 c3 gs A1 c1 is A2 c2 [] (some ⟨w1.heap.size + 1 + 1, 0, none⟩) 0 [] :=
              (own_put6 HOP (Nat.lt_succ_self _)).wider (Nat.le_succ _) (Nat.le_of_eq put6_size.symm)
            have HPP := Lib.hid (show PAPost (List.replicate is.length (vdat vt0), 0, is, far, [], [], true) w (.returned (.tuple #[.agg #[.slice A3 5 c3, .int .i64 0, .slice A1 5 c1, .int .i64 far, .slice A2 0 c2, .slice (some ⟨w1.heap.size + 1 + 1, 0, none⟩) 0 0], .bool true])) (put6 wr w.heap.size (.slice A3 5 c3) (.int .i64 0) (.slice A1 5 c1) (.int .i64 far) (.slice A2 0 c2) (.slice (some ⟨w1.heap.size + 1 + 1, 0, none⟩) 0 0)) from by
              refine ⟨A3, c3, gs, A1, c1, A2, c2, some ⟨w1.heap.size + 1 + 1, 0, none⟩, 0, ?_, ?_, HP, ?_⟩
              · simp [HLN.out]
              · rw [HLN.out]; exact HDT.out
              · exact bel_put6 (HB4.out.trans (hbw.mono (Nat.le_of_lt hgr))) (Nat.le_refl _))
            have y0 := cell_of_row _ _ 0 _ 38 (0, 0) HKK.out
            have y1 := cell_of_row _ _ 1 _ 38 (0, 0) HKK.out
            have y2 := cell_of_row _ _ 2 _ 38 (0, 0) HKK.out
            have y3 := cell_of_row _ _ 3 _ 38 (0, 0) HKK.out
            have y4 := cell_of_row _ _ 4 _ 38 (0, 0) HKK.out
            have y5 := cell_of_row _ _ 5 _ 38 (0, 0) HKK.out
            have r0 := cell_of_row _ _ 0 _ 38 (0, 0) hr5
            have r1 := cell_of_row _ _ 1 _ 38 (0, 0) hr5
            have r2 := cell_of_row _ _ 2 _ 38 (0, 0) hr5
            have r3 := cell_of_row _ _ 3 _ 38 (0, 0) hr5
            have r4 := cell_of_row _ _ 4 _ 38 (0, 0) hr5
            have r5 := cell_of_row _ _ 5 _ 38 (0, 0) hr5
            have f0 := free_blk hr5 0
            have f1 := free_blk hr5 1
            have f2 := free_blk hr5 2
            have f3 := free_blk hr5 3
            have f4 := free_blk hr5 4
            have f5 := free_blk hr5 5
            clear hr5 hws HOP HP hbw
            go_wp2
            exact bodyPost_ret (v := .tuple #[.agg #[.slice A3 5 c3, .int .i64 0, .slice A1 5 c1, .int .i64 far, .slice A2 0 c2, .slice (some ⟨w1.heap.size + 1 + 1, 0, none⟩) 0 0], .bool true]) (by simp [results, Try.results15, go_sem, r0, r1, r2, r3, r4, r5, f0, f1, f2, f3, f4, f5]) rfl HPP.out
end Go.Proofs.Ytojplmjoipjabaa.Po
