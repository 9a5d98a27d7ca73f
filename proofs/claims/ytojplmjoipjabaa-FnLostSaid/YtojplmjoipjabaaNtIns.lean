/-
  The contract of slices.Insert at a slice of letters: one letter put into a row of the call's own.
-/
import Derived.Test.YtojplmjoipjabaaInsR
import Derived.Test.YtojplmjoipjabaaNtMem
import Derived.Deep.RegionLaw
import Derived.Laws.Externs
namespace Go.Proofs.Ytojplmjoipjabaa.Nt
open Go.RowKit CM
set_option linter.unusedVariables false

set_option maxRecDepth 100000 in
set_option maxHeartbeats 1000000 in
theorem insL_end (A : Option Addr) (n c : Nat) (xs : List Value) (base vb : Nat) (x : List Value) (w : World) (h : w.ownsRow base 66 4 (.slice A n c) n xs) (hx : w.heap[vb]? = some (.cells x.toArray 66 (0, 0))) (hxl : x.length = 4) (h1 : ∀ u ∈ x, u.oneCell' = true) (hbase : base ≤ w.heap.size) (hn : n ≤ 1048576) :
    Calls Try.prog 113 #[.slice A n c, .int .i64 n, .slice (some ⟨vb, 0, none⟩) 1 1] w (InsPost base 66 4 n (.slice A n c) (xs ++ x) w) := by
  obtain ⟨i0, hi, hz0, hz1, hz2⟩ := info_parts infoLet
  have HX := Lib.hid hx
  have HXL := Lib.hid hxl
  have H := Lib.hid h
  have hnc : n ≤ c := by
    rcases h.2 with ⟨h2, h3⟩ | ⟨g, cap, cur, h2, _, _, h3, _⟩
    · omega
    · injection h2 with _ _ h4; omega
  have hnil : A = none → n = 0 ∧ c = 0 := fun e => by
    rcases h.2 with ⟨h2, h3⟩ | ⟨g, cap, cur, h2, _⟩
    · injection h2 with _ h4 h5; exact ⟨h4, h5⟩
    · rw [e] at h2; injection h2 with h4; cases h4
  clear h hx hxl
  have hfin : ∀ v' w', w'.ownsRow base 66 4 v' (n + 1) (xs ++ x) → w.grownBy w' (Value.slice A n c).ownBlock → (v'.ownBlock = (Value.slice A n c).ownBlock ∨ v'.ownBlock = some w.heap.size) → InsPost base 66 4 n (.slice A n c) (xs ++ x) w (.returned v') w' := fun v' w' a b d => ⟨v', rfl, a, b, d⟩
  have HFIN := Lib.hid hfin
  clear hfin
  cases A with
  | none =>
    obtain ⟨rfl, rfl⟩ := hnil rfl
    go_enter Try.func113, Try.ntmps113
    go_wp2_with (at_builtin; refine wpList_app rfl (.tmp 23) (.tmp 24) 33 rfl base 66 i0 _ 4 40 Try.underlying33 hi hz0 hz1 hz2 rfl (by decide) (.slice none 0 0) 0 xs rfl H.out (some ⟨vb, 0, none⟩) 1 1 x rfl (by rw [HXL.out]) (fun _ => ⟨_, rfl, World.news_of_block (fr := (0, 0)) HX.out⟩) h1 (by unfold maxLen; omega) (by omega) hbase ?_; intro v' w' hown hgrow hat)
    have HF := Lib.hid (HFIN.out v' w' hown hgrow hat)
    clear hown hgrow hat
    go_ret
    exact HF.out
  | some ad =>
    clear hnil
    by_cases hcn : c = n
    · subst hcn
      go_enter Try.func113, Try.ntmps113
      go_wp2_with (at_builtin; refine wpList_app rfl (.tmp 23) (.tmp 24) 33 rfl base 66 i0 _ 4 40 Try.underlying33 hi hz0 hz1 hz2 rfl (by decide) (.slice (some ad) c c) c xs rfl H.out (some ⟨vb, 0, none⟩) 1 1 x rfl (by rw [HXL.out]) (fun _ => ⟨_, rfl, World.news_of_block (fr := (0, 0)) HX.out⟩) h1 (by unfold maxLen; omega) (by omega) hbase ?_; intro v' w' hown hgrow hat)
      have HF := Lib.hid (HFIN.out v' w' hown hgrow hat)
      clear hown hgrow hat
      go_ret
      exact HF.out
    · go_enter Try.func113, Try.ntmps113
      go_wp2_with (at_builtin; refine wpList_app rfl (.tmp 23) (.tmp 24) 33 rfl base 66 i0 _ 4 40 Try.underlying33 hi hz0 hz1 hz2 rfl (by decide) (.slice (some ad) n c) n xs rfl H.out (some ⟨vb, 0, none⟩) 1 1 x rfl (by rw [HXL.out]) (fun _ => ⟨_, rfl, World.news_of_block (fr := (0, 0)) HX.out⟩) h1 (by unfold maxLen; omega) (by omega) hbase ?_; intro v' w' hown hgrow hat)
      have HF := Lib.hid (HFIN.out v' w' hown hgrow hat)
      clear hown hgrow hat
      go_ret
      exact HF.out

set_option maxRecDepth 100000 in
set_option maxHeartbeats 1000000 in
theorem insL_shift (g n c i : Nat) (xs : List Value) (cur : List Value) (base vb : Nat) (x : List Value) (w : World) (hi : i < n) (hroom : n + 1 ≤ c) (hxs : cur.take (n * 4) = xs) (hcl : cur.length = c * 4) (hg : w.heap[g]? = some (.cells cur.toArray 66 (0, 0))) (hx : w.heap[vb]? = some (.cells x.toArray 66 (0, 0))) (hxl : x.length = 4) (h1 : ∀ u ∈ x, u.oneCell' = true) (h1x : ∀ u ∈ xs, u.oneCell' = true) (hne : vb ≠ g) (hbase : base ≤ g) (hc : c ≤ maxLen) (hn : n ≤ 1048576) :
    Calls Try.prog 113 #[.slice (some ⟨g, 0, none⟩) n c, .int .i64 i, .slice (some ⟨vb, 0, none⟩) 1 1] w (InsPost base 66 4 n (.slice (some ⟨g, 0, none⟩) n c) (xs.take (i * 4) ++ x ++ xs.drop (i * 4)) w) := by
  obtain ⟨i0, hi0, hz0, hz1, hz2⟩ := info_parts infoLet
  have hsz : (Try.prog.info? 66).map (·.size) = some 4 := by rw [hi0]; simp [hz1]
  have hxsl : xs.length = n * 4 := by rw [← hxs, List.length_take, hcl]; omega
  have hc63 : c ≤ 9223372036854775807 := by unfold maxLen at hc; omega
  have hsh : ∀ b (cs : List Value), w.heap[b]? = some (.cells cs.toArray 66 (0, 0)) → w.shape? b = some (66, cs.length) := fun b cs h => by simp [World.shape?, h]
  have hov : ∀ o lb cb, (callFunc 128 #[.slice (some ⟨vb, 0, none⟩) 1 1, .slice (some ⟨g, o, none⟩) lb cb]).run Try.prog w = .ok (.value (.bool false)) w := fun o lb cb => by
    rw [run_callFunc_extern Try.func128 (by kernel_rfl) (by kernel_rfl) (by kernel_rfl) (e := Extern.SlicesOverlaps.overlaps #[33, 33] #[4]) (by kernel_rfl),
      Lib.run_overlaps_apart w 33 4 66 Try.underlying33 4 Try.sizeOf66 ⟨vb, 0, none⟩ ⟨g, o, none⟩ 1 1 lb cb hne 66 66 x.length cur.length (hsh vb x hx) (hsh g cur hg) (by rw [hcl]; omega) (free_blk hx 0) (free_blk hx _)]
    rfl
  have hdl : (xs.drop (i * 4)).length = (n - i) * 4 := by rw [List.length_drop, hxsl]; omega
  have hcp1 : ∀ (W : World), W.heap = w.heap → ∀ o1 o2 d1 d2 ty dc sc, o1 = (i + 1) * 4 → o2 = i * 4 → d1 = n - i → d2 = n + 1 - i → (Builtin.copy_ #[33, 33] ty #[.slice (some ⟨g, o1, none⟩) d1 dc, .slice (some ⟨g, o2, none⟩) d2 sc]).run Try.prog W = .ok (goInt ((n - i : Nat) : Int)) (W.setRow g (spl cur ((i + 1) * 4) (xs.drop (i * 4))).toArray) := fun W hW o1 o2 d1 d2 ty dc sc e1 e2 e3 e4 => by
    have hm : Nat.min d2 d1 = n - i := by rw [e3, e4]; exact Nat.min_eq_right (by omega)
    have := run_copy_at (P := Try.prog) W 33 33 ty 66 g o1 d1 dc 4 ⟨g, o2, none⟩ d2 sc cur 66 (xs.drop (i * 4)) Try.underlying33 hsz (by rw [hW]; exact hg) (by rw [hdl, hm]) (fun j v hj => by
      have hadd : (⟨g, o2, none⟩ : Addr).add j = ⟨g, o2 + j, none⟩ := by unfold Addr.add; split <;> simp_all
      rw [hadd]
      refine cell_blk (cs := cur.toArray) (by rw [hW]; exact hg) ?_
      rw [List.getElem?_drop, ← hxs, List.getElem?_take] at hj
      split at hj
      · rw [List.getElem?_toArray, e2]; exact hj
      · cases hj) (by rw [e1, hdl, hcl]; omega) (fun v hv => h1x v (List.mem_of_mem_drop hv))
    rw [this, hm, e1]
    rfl
  have hcur1 : (spl cur ((i + 1) * 4) (xs.drop (i * 4))).length = cur.length := spl_len (by rw [hdl, hcl]; omega)
  have hg1 : (w.setRow g (spl cur ((i + 1) * 4) (xs.drop (i * 4))).toArray).heap[g]? = some (.cells (spl cur ((i + 1) * 4) (xs.drop (i * 4))).toArray 66 (0, 0)) := setRow_heap w g _ _ _ _ hg
  have hcp2 : ∀ (W : World), W.heap = (w.setRow g (spl cur ((i + 1) * 4) (xs.drop (i * 4))).toArray).heap → ∀ o1 d1 ty dc, o1 = i * 4 → d1 = n + 1 - i → (Builtin.copy_ #[33, 33] ty #[.slice (some ⟨g, o1, none⟩) d1 dc, .slice (some ⟨vb, 0, none⟩) 1 1]).run Try.prog W = .ok (goInt ((1 : Nat) : Int)) (W.setRow g (spl (spl cur ((i + 1) * 4) (xs.drop (i * 4))) (i * 4) x).toArray) := fun W hW o1 d1 ty dc e1 e2 => by
    have hm : Nat.min 1 d1 = 1 := Nat.min_eq_left (by omega)
    have := run_copy_at (P := Try.prog) W 33 33 ty 66 g o1 d1 dc 4 ⟨vb, 0, none⟩ 1 1 (spl cur ((i + 1) * 4) (xs.drop (i * 4))) 66 x Try.underlying33 hsz (by rw [hW]; exact hg1) (by rw [hxl, hm]) (fun j v hj => by
      have hadd : (⟨vb, 0, none⟩ : Addr).add j = ⟨vb, 0 + j, none⟩ := by unfold Addr.add; split <;> simp_all
      rw [hadd, Nat.zero_add]
      have h5 : W.heap[vb]? = some (.cells x.toArray 66 (0, 0)) := by rw [hW, setRow_other w g vb _ hne]; exact hx
      exact cell_blk h5 (by rw [List.getElem?_toArray]; exact hj)) (by rw [e1, hxl, hcur1, hcl]; omega) h1
    rw [this, hm, e1]
    rfl
  have hsh2 : (spl (spl cur ((i + 1) * 4) (xs.drop (i * 4))) (i * 4) x).take ((n + 1) * 4) = xs.take (i * 4) ++ x ++ xs.drop (i * 4) := by
    have := spl_shift (F := xs) (cur := cur) (x := x) (p := i * 4) (q := 4) (m := (n - i) * 4) (by rw [← hxs]; congr 1; omega) (by rw [hxsl]; omega) hxl (by rw [hcl]; omega)
    rw [show i * 4 + 4 = (i + 1) * 4 by omega, show (i + 1) * 4 + (n - i) * 4 = (n + 1) * 4 by omega] at this
    exact this
  have hlast : ∀ w', w'.heap = ((w.setRow g (spl cur ((i + 1) * 4) (xs.drop (i * 4))).toArray).setRow g (spl (spl cur ((i + 1) * 4) (xs.drop (i * 4))) (i * 4) x).toArray).heap → w'.os = w.os → w'.tape = w.tape → w'.output = w.output → InsPost base 66 4 n (.slice (some ⟨g, 0, none⟩) n c) (xs.take (i * 4) ++ x ++ xs.drop (i * 4)) w (.returned (.slice (some ⟨g, 0, none⟩) (n + 1) c)) w' := fun w' hw' ho ht hu => by
    have hgr := ins_setRow (ins_setRow (grown_refl w (some g)) (spl cur ((i + 1) * 4) (xs.drop (i * 4))).toArray) (spl (spl cur ((i + 1) * 4) (xs.drop (i * 4))) (i * 4) x).toArray
    refine ⟨_, rfl, ⟨?_, .inr ⟨g, c, (spl (spl cur ((i + 1) * 4) (xs.drop (i * 4))) (i * 4) x).toArray, rfl, hbase, ?_, hroom, hc, ?_, ?_⟩⟩, ⟨ho, ht, hu, by rw [hw']; exact hgr.size, fun k hk hne => by rw [hw']; exact hgr.block k hk hne⟩, .inl rfl⟩
    · rw [← hsh2, List.length_take, spl_len (by rw [hxl, hcur1, hcl]; omega), hcur1, hcl]; omega
    · rw [hw']; exact setRow_heap _ g _ _ _ _ hg1
    · rw [List.size_toArray, spl_len (by rw [hxl, hcur1, hcl]; omega), hcur1, hcl]
    · rw [List.toList_toArray]; exact hsh2
  obtain ⟨C1, hC1⟩ : ∃ C1, C1 = (spl cur ((i + 1) * 4) (xs.drop (i * 4))).toArray := ⟨_, rfl⟩
  obtain ⟨C2, hC2⟩ : ∃ C2, C2 = (spl (spl cur ((i + 1) * 4) (xs.drop (i * 4))) (i * 4) x).toArray := ⟨_, rfl⟩
  rw [← hC1] at hcp1 hcp2 hlast
  rw [← hC2] at hcp2 hlast
  obtain ⟨ys, hys⟩ : ∃ ys, ys = xs.take (i * 4) ++ x ++ xs.drop (i * 4) := ⟨_, rfl⟩
  rw [← hys] at hlast ⊢
  have HCP1 := Lib.hid hcp1
  have HCP2 := Lib.hid hcp2
  have HL := Lib.hid hlast
  have hin : ¬ ((i : Int) = (n : Int)) := by omega
  have hw1 : IntKind.i64.wrap ((i : Int) + 1) = (i : Int) + 1 := by rw [IntKind.wrap_i64]; omega
  have hb1 : (0 : Int) ≤ (i : Int) + 1 := by omega
  have htn : ((i : Int) + 1).toNat = i + 1 := by omega
  have hb2 : ¬ (c = i + 1) := by omega
  have hb3 : (i : Int) ≤ (n : Int) + 1 := by omega
  have hb4 : ¬ (c = i) := by omega
  have hb5 : i ≤ n := by omega
  have hb6 : i ≤ n + 1 := by omega
  clear hxs hcl hg hx hxl h1 h1x hne hxsl hsh hdl hcp1 hcp2 hcur1 hg1 hsh2 hlast hC1 hC2 hys hsz hc hbase
  go_enter Try.func113, Try.ntmps113
  go_wp2_with (simp only [hov])
  go_region_law (refine step_copy_told rfl (.tmp 73) (.tmp 76) 33 33 rfl (.slice (some ⟨g, (i + 1) * 4, none⟩) (n - i) (c - (i + 1))) (.slice (some ⟨g, i * 4, none⟩) (n + 1 - i) (c - i)) (by simp [Act.eval, Act.put]) (by simp [Act.eval, Act.put]) (HCP1.out w.drew rfl _ _ _ _ _ _ _ rfl rfl rfl rfl) ?_)
  have hcq := HCP2.out (w.drew.setRow g C1) rfl (i * 4) (n + 1 - i) 3 (c - i) rfl rfl
  go_wp2
  go_ret
  exact HL.out _ rfl rfl rfl rfl

theorem zero_len (z : Value) (k s : Nat) (h : z.cells.size = s) : (Builtin.zeroCells z.cells k).toList.length = k * s := by
  simp [Builtin.zeroCells, h]

set_option maxRecDepth 100000 in
set_option maxHeartbeats 1000000 in
theorem insL_grow (g n i : Nat) (xs : List Value) (cur : List Value) (base vb : Nat) (x : List Value) (w : World) (hi : i < n) (hxs : cur.take (n * 4) = xs) (hcl : cur.length = n * 4) (hg : w.heap[g]? = some (.cells cur.toArray 66 (0, 0))) (hx : w.heap[vb]? = some (.cells x.toArray 66 (0, 0))) (hxl : x.length = 4) (h1 : ∀ u ∈ x, u.oneCell' = true) (h1x : ∀ u ∈ xs, u.oneCell' = true) (hbase : base ≤ w.heap.size) (hn : n ≤ 1048576) :
    Calls Try.prog 113 #[.slice (some ⟨g, 0, none⟩) n n, .int .i64 i, .slice (some ⟨vb, 0, none⟩) 1 1] w (InsPost base 66 4 n (.slice (some ⟨g, 0, none⟩) n n) (xs.take (i * 4) ++ x ++ xs.drop (i * 4)) w) := by
  obtain ⟨i0, hi0, hz0, hz1, hz2⟩ := info_parts infoLet
  have hsz : (Try.prog.info? 66).map (·.size) = some 4 := by rw [hi0]; simp [hz1]
  have hxsl : xs.length = n * 4 := by rw [← hxs, List.length_take, hcl]; omega
  have hgw : g < w.heap.size := lt_blk hg
  have hvw : vb < w.heap.size := lt_blk hx
  have hcx : ∀ j v, xs[j]? = some v → w.cell? ⟨g, j, none⟩ = some v := fun j v hj => by
    refine cell_blk (cs := cur.toArray) hg ?_
    rw [← hxs, List.getElem?_take] at hj
    split at hj
    · rw [List.getElem?_toArray]; exact hj
    · cases hj
  have hadd : ∀ b o j, (⟨b, o, none⟩ : Addr).add j = ⟨b, o + j, none⟩ := fun b o j => by unfold Addr.add; split <;> simp_all
  have hold : (Builtin.firstCells i0.size i (.slice (some ⟨g, 0, none⟩) i n)).run Try.prog w.drew = .ok (xs.take (i * 4)).toArray w.drew := by
    rw [hz1]
    exact run_firstCells_some w.drew 4 i ⟨g, 0, none⟩ i n (xs.take (i * 4)) (by rw [List.length_take]; omega) (fun j v hj => by
      rw [hadd, Nat.zero_add]
      rw [List.getElem?_take] at hj
      split at hj
      · exact hcx j v hj
      · cases hj)
  have hkk : (n : Int) + 1 - (i : Int) = ((n + 1 - i : Nat) : Int) := by omega
  have hik : i + (n + 1 - i) = n + 1 := by omega
  have hrz := Lib.run_append_grow_zeros (P := Try.prog) w 33 3 33 66 i0 _ .i64 .i64 Try.underlying33 Try.underlying3 hi0 hz0 (some ⟨g, 0, none⟩) i n (xs.take (i * 4)) hold (n + 1 - i) (by omega) (by omega) (by omega) (by omega) (by rw [hz2]; omega) (by rw [hz2, hik]; exact growslice_fits (by omega) (by omega))
  rw [hik, ← hkk] at hrz
  have hGn : n + 1 ≤ grownCap w (n + 1) n 66 := grownCap_ge w _ _ _
  have hGm : grownCap w (n + 1) n 66 ≤ maxLen := grownCap_le_maxLen w (n + 1) n 66 (by unfold maxLen; omega)
  obtain ⟨G, hG⟩ : ∃ G, G = grownCap w (n + 1) n 66 := ⟨_, rfl⟩
  rw [← hG] at hrz hGn hGm
  obtain ⟨R, hR⟩ : ∃ R : Array Value, R = (xs.take (i * 4)).toArray ++ Builtin.zeroCells (Value.agg #[Value.int .i64 0, Value.int .i64 0, Value.int .i64 0, Value.string ⟨#[]⟩]).cells (n + 1 - i) ++ Builtin.zeroCells (Value.agg #[Value.int .i64 0, Value.int .i64 0, Value.int .i64 0, Value.string ⟨#[]⟩]).cells (G - (n + 1)) := ⟨_, rfl⟩
  rw [← hR] at hrz
  have hRl : R.toList = xs.take (i * 4) ++ ((Builtin.zeroCells (Value.agg #[Value.int .i64 0, Value.int .i64 0, Value.int .i64 0, Value.string ⟨#[]⟩]).cells (n + 1 - i)).toList ++ (Builtin.zeroCells (Value.agg #[Value.int .i64 0, Value.int .i64 0, Value.int .i64 0, Value.string ⟨#[]⟩]).cells (G - (n + 1))).toList) := by rw [hR]; simp
  have hRn : R.toList.length = G * 4 := by
    rw [hRl, List.length_append, List.length_append, zero_len _ _ 4 (by rfl), zero_len _ _ 4 (by rfl), List.length_take, hxsl]; omega
  have hRt : R.toList.take (i * 4) = xs.take (i * 4) := by
    rw [hRl]; exact take_self_append _ _ _ (by rw [List.length_take]; omega)
  obtain ⟨W1, hW1⟩ : ∃ W1, W1 = w.drew.alloc (.cells R 66) := ⟨_, rfl⟩
  rw [← hW1] at hrz
  have hN : W1.heap[w.heap.size]? = some (.cells R.toList.toArray 66 (0, 0)) := by rw [hW1]; exact heap_alloc_new w.drew _
  have hgr1 : w.grownBy W1 none := by rw [hW1]; exact ins_alloc (ins_drew (grown_refl w none)) _
  have hdl : (xs.drop (i * 4)).length = (n - i) * 4 := by rw [List.length_drop, hxsl]; omega
  have hcp1 : (Builtin.copy_ #[33, 33] 3 #[.slice (some ⟨w.heap.size, i * 4, none⟩) (n + 1 - i) (G - i), .slice (some ⟨vb, 0, none⟩) 1 1]).run Try.prog W1 = .ok (goInt ((1 : Nat) : Int)) (W1.setRow w.heap.size (spl R.toList (i * 4) x).toArray) := by
    have hm : Nat.min 1 (n + 1 - i) = 1 := Nat.min_eq_left (by omega)
    have := run_copy_at (P := Try.prog) W1 33 33 3 66 w.heap.size (i * 4) (n + 1 - i) (G - i) 4 ⟨vb, 0, none⟩ 1 1 R.toList 66 x Try.underlying33 hsz hN (by rw [hxl, hm]) (fun j v hj => by
      rw [hadd, Nat.zero_add]
      have h5 : W1.heap[vb]? = some (.cells x.toArray 66 (0, 0)) := (hgr1.block vb hvw (by simp)).trans hx
      exact cell_blk h5 (by rw [List.getElem?_toArray]; exact hj)) (by rw [hxl, hRn]; omega) h1
    rw [this, hm]
    rfl
  have hcur1 : (spl R.toList (i * 4) x).length = R.toList.length := spl_len (by rw [hxl, hRn]; omega)
  have hN1 : (W1.setRow w.heap.size (spl R.toList (i * 4) x).toArray).heap[w.heap.size]? = some (.cells (spl R.toList (i * 4) x).toArray 66 (0, 0)) := setRow_heap W1 _ _ _ _ _ hN
  have hcp2 : ∀ (W : World), W.heap = (W1.setRow w.heap.size (spl R.toList (i * 4) x).toArray).heap → ∀ ty dc sc, (Builtin.copy_ #[33, 33] ty #[.slice (some ⟨w.heap.size, (i + 1) * 4, none⟩) (n - i) dc, .slice (some ⟨g, i * 4, none⟩) (n - i) sc]).run Try.prog W = .ok (goInt ((n - i : Nat) : Int)) (W.setRow w.heap.size (spl (spl R.toList (i * 4) x) ((i + 1) * 4) (xs.drop (i * 4))).toArray) := fun W hW ty dc sc => by
    have hm : Nat.min (n - i) (n - i) = n - i := Nat.min_self _
    have := run_copy_at (P := Try.prog) W 33 33 ty 66 w.heap.size ((i + 1) * 4) (n - i) dc 4 ⟨g, i * 4, none⟩ (n - i) sc (spl R.toList (i * 4) x) 66 (xs.drop (i * 4)) Try.underlying33 hsz (by rw [hW]; exact hN1) (by rw [hdl, hm]) (fun j v hj => by
      rw [hadd]
      have h5 : W.heap[g]? = some (.cells cur.toArray 66 (0, 0)) := by rw [hW, setRow_other W1 _ g _ (by omega)]; exact (hgr1.block g hgw (by simp)).trans hg
      refine cell_blk h5 ?_
      rw [List.getElem?_drop, ← hxs, List.getElem?_take] at hj
      split at hj
      · rw [List.getElem?_toArray]; exact hj
      · cases hj) (by rw [hdl, hcur1, hRn]; omega) (fun v hv => h1x v (List.mem_of_mem_drop hv))
    rw [this, hm]
    rfl
  have hsh2 : (spl (spl R.toList (i * 4) x) ((i + 1) * 4) (xs.drop (i * 4))).take ((n + 1) * 4) = xs.take (i * 4) ++ x ++ xs.drop (i * 4) := by
    have := spl_grow (F := xs) (cur := R.toList) (x := x) (p := i * 4) (q := 4) (m := (n - i) * 4) hRt (by rw [hxsl]; omega) hxl (by rw [hRn]; omega)
    rw [show i * 4 + 4 = (i + 1) * 4 by omega, show (i + 1) * 4 + (n - i) * 4 = (n + 1) * 4 by omega] at this
    exact this
  have hC2l : (spl (spl R.toList (i * 4) x) ((i + 1) * 4) (xs.drop (i * 4))).length = G * 4 := by rw [spl_len (by rw [hdl, hcur1, hRn]; omega), hcur1, hRn]
  have hlast : ∀ w', w'.heap = ((W1.setRow w.heap.size (spl R.toList (i * 4) x).toArray).setRow w.heap.size (spl (spl R.toList (i * 4) x) ((i + 1) * 4) (xs.drop (i * 4))).toArray).heap → w'.os = W1.os → w'.tape = W1.tape → w'.output = W1.output → InsPost base 66 4 n (.slice (some ⟨g, 0, none⟩) n n) (xs.take (i * 4) ++ x ++ xs.drop (i * 4)) w (.returned (.slice (some ⟨w.heap.size, 0, none⟩) (n + 1) G)) w' := fun w' hw' ho ht hu => by
    have hgr := ins_setNew (ins_setNew hgr1 (Nat.le_refl _) (spl R.toList (i * 4) x).toArray) (Nat.le_refl _) (spl (spl R.toList (i * 4) x) ((i + 1) * 4) (xs.drop (i * 4))).toArray
    refine ⟨_, rfl, ⟨?_, .inr ⟨w.heap.size, G, (spl (spl R.toList (i * 4) x) ((i + 1) * 4) (xs.drop (i * 4))).toArray, rfl, hbase, ?_, hGn, hGm, ?_, ?_⟩⟩, ⟨ho.trans hgr1.os, ht.trans hgr1.tape, hu.trans hgr1.output, by rw [hw']; exact hgr.size, fun k hk hne => by rw [hw']; exact hgr.block k hk (by simp)⟩, .inr rfl⟩
    · rw [← hsh2, List.length_take, hC2l]; omega
    · rw [hw']; exact setRow_heap _ _ _ _ _ _ hN1
    · rw [List.size_toArray, hC2l]
    · rw [List.toList_toArray]; exact hsh2
  obtain ⟨C1, hC1⟩ : ∃ C1, C1 = (spl R.toList (i * 4) x).toArray := ⟨_, rfl⟩
  obtain ⟨C2, hC2⟩ : ∃ C2, C2 = (spl (spl R.toList (i * 4) x) ((i + 1) * 4) (xs.drop (i * 4))).toArray := ⟨_, rfl⟩
  rw [← hC1] at hcp1 hcp2 hlast
  rw [← hC2] at hcp2 hlast
  obtain ⟨ys, hys⟩ : ∃ ys, ys = xs.take (i * 4) ++ x ++ xs.drop (i * 4) := ⟨_, rfl⟩
  rw [← hys] at hlast ⊢
  have HRZ := Lib.hid hrz
  have HCP2 := Lib.hid hcp2
  have HL := Lib.hid hlast
  have hin : ¬ ((i : Int) = (n : Int)) := by omega
  have hw1 : IntKind.i64.wrap ((i : Int) + 1) = (i : Int) + 1 := by rw [IntKind.wrap_i64]; omega
  have hb1 : (0 : Int) ≤ (i : Int) + 1 := by omega
  have htn : ((i : Int) + 1).toNat = i + 1 := by omega
  have hb2 : ¬ (G = i + 1) := by omega
  have hb3 : (i : Int) ≤ (n : Int) := by omega
  have hb4 : ¬ (n = i) := by omega
  have hb5 : i ≤ n := by omega
  have hb6 : i ≤ n + 1 := by omega
  have hb7 : ¬ (G = i) := by omega
  have hb8 : G ≤ 9223372036854775807 := by unfold maxLen at hGm; omega
  clear hxs hcl hg hx hxl h1 h1x hxsl hgw hvw hcx hadd hold hkk hik hrz hG hR hRl hRn hRt hW1 hN hgr1 hdl hcp2 hcur1 hN1 hsh2 hC2l hlast hC1 hC2 hys hsz hbase hGm
  go_enter Try.func113, Try.ntmps113
  go_wp2_with (at_builtin; refine Lib.wpList_append_run _ rfl _ _ _ _ rfl _ _ rfl rfl _ _ HRZ.out ?_)
  go_region_law (refine step_copy_told rfl (.tmp 50) (.tmp 53) 33 33 rfl (.slice (some ⟨w.heap.size, (i + 1) * 4, none⟩) (n - i) (G - (i + 1))) (.slice (some ⟨g, i * 4, none⟩) (n - i) (n - i)) (by simp [Act.eval, Act.put]) (by simp [Act.eval, Act.put]) (HCP2.out (W1.setRow w.heap.size C1).drew rfl _ _ _) ?_)
  go_wp2
  go_ret
  exact HL.out _ rfl rfl rfl rfl

/-- Put into a row of the call's own, wherever. -/
theorem insL_any (A : Option Addr) (n c i : Nat) (xs : List Value) (base vb : Nat) (x : List Value) (w : World) (h : w.ownsRow base 66 4 (.slice A n c) n xs) (hi : i ≤ n) (hx : w.heap[vb]? = some (.cells x.toArray 66 (0, 0))) (hxl : x.length = 4) (h1 : ∀ u ∈ x, u.oneCell' = true) (h1x : ∀ u ∈ xs, u.oneCell' = true) (hne : ∀ g, A = some g → vb ≠ g.block) (hbase : base ≤ w.heap.size) (hn : n ≤ 1048576) :
    Calls Try.prog 113 #[.slice A n c, .int .i64 i, .slice (some ⟨vb, 0, none⟩) 1 1] w (InsPost base 66 4 n (.slice A n c) (xs.take (i * 4) ++ x ++ xs.drop (i * 4)) w) := by
  by_cases hin : i = n
  · subst hin
    have hxsl := h.1
    rw [List.take_of_length_le (by omega), List.drop_of_length_le (by omega), List.append_nil]
    exact insL_end A i c xs base vb x w h hx hxl h1 hbase hn
  · rcases h.2 with ⟨h2, h3⟩ | ⟨g, cap, cur, h2, hb, hh, hnc, hm, hs, ht⟩
    · omega
    · injection h2 with hA _ hc
      subst hA hc
      have hne' := hne _ rfl
      by_cases hr : n + 1 ≤ c
      · exact insL_shift g n c i xs cur.toList base vb x w (by omega) hr ht (by simpa using hs) hh hx hxl h1 h1x hne' hb hm hn
      · obtain rfl : c = n := by omega
        exact insL_grow g c i xs cur.toList base vb x w (by omega) ht (by simpa using hs) hh hx hxl h1 h1x hbase hn
end Go.Proofs.Ytojplmjoipjabaa.Nt
