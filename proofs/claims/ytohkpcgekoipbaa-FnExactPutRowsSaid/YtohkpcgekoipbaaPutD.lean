/-
  slices.DeleteFunc over isGone, on a row of the call's own; PutRows of the program.
-/
import Derived.Test.YtohkpcgekoipbaaPutJ
namespace Go.Proofs.Ytohkpcgekoipbaa
open Go Go.RowKit CM
set_option linter.unusedVariables false

theorem run_clear_at {P : Program} (w : World) (t e ty : TypeId) (z : Value) (ht : P.underlying t = some (.slice e)) (hv : ∀ w, (zeroValue e).run P w = .ok z w) (g o n c : Nat) (cur : List Value) (et : TypeId) (hg : w.heap[g]? = some (.cells cur.toArray et (0, 0))) (hn : 0 < n)
    (hfit : o + (Builtin.zeroCells z.cells n).toList.length ≤ cur.length) (h1 : ∀ v ∈ (Builtin.zeroCells z.cells n).toList, v.oneCell' = true) :
    (Builtin.clear_ #[t] ty #[.slice (some ⟨g, o, none⟩) n c]).run P w = .ok (.tuple #[]) (w.setRow g (spl cur o (Builtin.zeroCells z.cells n).toList).toArray) := by
  have hst := run_storeCells_at P g o et (Builtin.zeroCells z.cells n).toList 0 cur.toArray w hg (by simpa using hfit) h1
  obtain ⟨m, rfl⟩ : ∃ m, n = m + 1 := ⟨n - 1, by omega⟩
  simp only [Nat.add_zero] at hst
  simp [Builtin.clear_, run_underlying ht, hv, hst, spl]
theorem spl_take {l x : List Value} {o : Nat} (h : o ≤ l.length) : (spl l o x).take o = l.take o := by
  unfold spl
  rw [List.append_assoc, List.take_append_of_le_length (by rw [List.length_take]; omega), List.take_take, Nat.min_self]

/-- The row while its deletions are taken out: what is kept of the first q, what stands between, the rest. -/
def DelRel (ws : List (ByteArray × ByteArray × Bool)) (g c lo : Nat) (w : World) (p q : Nat) (wr : World) : Prop :=
  p = (liveW (ws.take q)).length ∧ ∃ M : List (List Value), p + M.length = q ∧ 0 < M.length ∧ (∀ x ∈ M, x.length = 3) ∧ Own wr lo w.heap.size 74 3 (some ⟨g, 0, none⟩) c ((liveW (ws.take q)).map wrCs ++ (M ++ (ws.drop q).map wrCs)) ∧ Below lo w wr
theorem DelRel.gone {ws : List (ByteArray × ByteArray × Bool)} {g c lo p q : Nat} {w wr w' : World} (h : DelRel ws g c lo w p q wr) (hlo : lo ≤ w.heap.size) (hq : q < ws.length) (hg : ws[q].2.2 = true) (hb : Below wr.heap.size wr w') : DelRel ws g c lo w p (q + 1) w' := by
  obtain ⟨h1, M, h2, h3, h4, h5, h6⟩ := h
  have e : liveW (ws.take (q + 1)) = liveW (ws.take q) := by rw [liveW_succ hq, hg]; simp
  refine ⟨by rw [e]; exact h1, M ++ [wrCs ws[q]], by simp; omega, by simp, fun x hx => ?_, ?_, h6.trans (hb.mono (Nat.le_trans hlo h6.size))⟩
  · rcases List.mem_append.1 hx with hx | hx
    · exact h4 x hx
    · rw [List.mem_singleton.1 hx]; rfl
  · have h7 := h5.below (hb.mono h6.size)
    rw [e, List.append_assoc, List.singleton_append, ← List.map_cons, ← List.drop_eq_getElem_cons hq]
    exact h7
theorem DelRel.keep {ws : List (ByteArray × ByteArray × Bool)} {g c lo p q : Nat} {w wr w1 : World} (h : DelRel ws g c lo w p q wr) (hlo : lo ≤ w.heap.size) (hglo : lo ≤ g) (hq : q < ws.length) {k v : ByteArray} {u : Bool} (hy : ws[q] = (k, v, u)) (hg : u = false) (hb : Below wr.heap.size wr w1) :
    DelRel ws g c lo w (p + 1) (q + 1) (((w1.setCell ⟨g, p * 3, none⟩ (.string k)).setCell ⟨g, p * 3 + 1, none⟩ (.string v)).setCell ⟨g, p * 3 + 2, none⟩ (.bool u)) := by
  obtain ⟨h1, M, h2, h3, h4, h5, h6⟩ := h
  have e : liveW (ws.take (q + 1)) = liveW (ws.take q) ++ [ws[q]] := by rw [liveW_succ hq, hy]; simp [hg]
  have hMl : 0 < (M ++ (ws.drop q).map wrCs).length := by rw [List.length_append]; omega
  obtain ⟨m0, M', rfl⟩ : ∃ a l, M = a :: l := by cases M with
    | nil => simp at h3
    | cons a l => exact ⟨a, l, rfl⟩
  refine ⟨by rw [e, List.length_append, ← h1]; rfl, M' ++ [wrCs ws[q]], by simp at h2 ⊢; omega, by simp, fun x hx => ?_, ?_, (((h6.trans (hb.mono (Nat.le_trans hlo h6.size))).setCell (p := ⟨g, p * 3, none⟩) hglo _).setCell (p := ⟨g, p * 3 + 1, none⟩) hglo _).setCell (p := ⟨g, p * 3 + 2, none⟩) hglo _⟩
  · rcases List.mem_append.1 hx with hx | hx
    · exact h4 x (List.mem_cons_of_mem _ hx)
    · rw [List.mem_singleton.1 hx]; rfl
  · have h7 := h5.below (hb.mono h6.size)
    have hj : p < ((liveW (ws.take q)).map wrCs ++ (m0 :: M' ++ (ws.drop q).map wrCs)).length := by simp; omega
    have hel : ((liveW (ws.take q)).map wrCs ++ (m0 :: M' ++ (ws.drop q).map wrCs))[p]'hj = m0 := by
      rw [List.getElem_append_right (by rw [List.length_map]; omega)]
      simp [h1]
    have h8 := h7.put3 p hj (by rw [hel]; exact h4 m0 (by simp)) (.string k) (.string v) (.bool u)
    have e2 : ((liveW (ws.take q)).map wrCs ++ (m0 :: M' ++ (ws.drop q).map wrCs)).set p [.string k, .string v, .bool u] = (liveW (ws.take (q + 1))).map wrCs ++ ((M' ++ [wrCs ws[q]]) ++ (ws.drop (q + 1)).map wrCs) := by
      rw [List.set_append_right _ _ (by rw [List.length_map]; omega), List.length_map, ← h1, Nat.sub_self, List.cons_append, List.set_cons_zero, e, List.map_append, List.map_cons, List.map_nil, List.append_assoc, List.append_assoc, List.singleton_append, List.singleton_append, ← List.map_cons, ← List.drop_eq_getElem_cons hq, hy]
      rfl
    rw [e2] at h8
    exact h8
/-- What the whole hands back. -/
def DelPost (ws : List (ByteArray × ByteArray × Bool)) (A : Option Addr) (c lo : Nat) (w : World) (e : Ending) (w' : World) : Prop :=
  ∃ m, m = (liveW ws).length ∧ e = .returned (.slice A m c) ∧ w'.ownsRow lo 74 3 (.slice A m c) m ((liveW ws).map wrCs).flatten ∧ Below lo w w'
theorem DelRel.done {ws : List (ByteArray × ByteArray × Bool)} {g c lo p n : Nat} {w wr : World} (h : DelRel ws g c lo w p n wr) (hn : ws.length = n) (hlo : lo ≤ g) :
    p < n ∧ n ≤ c ∧ c ≤ maxLen ∧ p = (liveW ws).length ∧ ∃ cur : List Value, wr.heap[g]? = some (.cells cur.toArray 74 (0, 0)) ∧ cur.length = c * 3 ∧ ∀ w', w'.heap[g]? = (wr.setRow g (spl cur (p * 3) (Builtin.zeroCells (Value.agg #[Value.string ⟨#[]⟩, Value.string ⟨#[]⟩, Value.bool false]).cells (n - p)).toList).toArray).heap[g]? → Below lo wr w' → DelPost ws (some ⟨g, 0, none⟩) c lo w (.returned (.slice (some ⟨g, 0, none⟩) p c)) w' := by
  obtain ⟨h1, M, h2, h3, h4, h5, h6⟩ := h
  have et : ws.take n = ws := List.take_of_length_le (by omega)
  rw [et] at h1 h5
  have hL : ∀ x ∈ (liveW ws).map wrCs ++ (M ++ (ws.drop n).map wrCs), x.length = 3 := fun x hx => by
    rcases List.mem_append.1 hx with hx | hx
    · exact wrCs_len _ x hx
    · rcases List.mem_append.1 hx with hx | hx
      · exact h4 x hx
      · exact wrCs_len _ x hx
  have hlen : ((liveW ws).map wrCs ++ (M ++ (ws.drop n).map wrCs)).length = n := by simp; omega
  have hrow := h5.toRow hL (by decide)
  rw [hlen] at hrow
  rcases hrow.2 with ⟨hv, _⟩ | ⟨g', cap, cur, hv, hb, hh, hnc, hm, hs, ht⟩
  · cases hv
  · injection hv with hA _ hc
    injection hA with hA
    injection hA with hA
    subst hA hc
    refine ⟨by omega, hnc, hm, h1, cur.toList, by simpa using hh, by simpa using hs, fun w' hw' hbw => ⟨p, h1, rfl, ⟨?_, .inr ⟨g, c, (spl cur.toList (p * 3) (Builtin.zeroCells (Value.agg #[Value.string ⟨#[]⟩, Value.string ⟨#[]⟩, Value.bool false]).cells (n - p)).toList).toArray, rfl, hlo, ?_, by omega, hm, ?_, ?_⟩⟩, h6.trans hbw⟩⟩
    · rw [flat_len (wrCs_len _), List.length_map, h1]
    · rw [hw']; exact setRow_heap wr g cur _ _ _ hh
    · rw [List.size_toArray, spl_len (by rw [zero_len _ _ 3 (by rfl), Array.length_toList, hs]; omega), Array.length_toList, hs]
    · rw [List.toList_toArray, spl_take (by rw [Array.length_toList, hs]; omega)]
      have e1 : cur.toList.take (p * 3) = (cur.toList.take (n * 3)).take (p * 3) := by rw [List.take_take, Nat.min_eq_left (by omega)]
      rw [e1, ht, flat_take hL p, h1]
      have e2 : ((liveW ws).map wrCs ++ (M ++ (ws.drop n).map wrCs)).take (liveW ws).length = (liveW ws).map wrCs := take_self_append _ _ _ (by rw [List.length_map])
      rw [e2]

theorem live_take_none {ws : List (ByteArray × ByteArray × Bool)} {k : Nat} (h : noneGone (ws.take k) = true) (hk : k < ws.length) (hg : ws[k].2.2 = true) : liveW (ws.take (k + 1)) = ws.take k := by
  rw [liveW_succ hk, hg, live_none h]; simp

set_option maxRecDepth 100000 in
set_option maxHeartbeats 2000000 in
theorem deleteGone_any (A : Option Addr) (n c : Nat) (ws : List (ByteArray × ByteArray × Bool)) (lo : Nat) (w : World) (hn : ws.length = n) (h : w.ownsRow lo 74 3 (.slice A n c) n (ws.map wrCs).flatten) (hlo : lo ≤ w.heap.size) (hl : n ≤ 100000) :
    Calls Try.prog 50 #[.slice A n c, .func (.func 51) #[] #[]] w (DelPost ws A c lo w) := by
  have how : Own w lo w.heap.size 74 3 A c (ws.map wrCs) := by
    obtain ⟨A', c', hv, _, ho⟩ := Own.ofRow h (wrCs_len _) (by decide) (hi := w.heap.size) (fun k hk => (h.lt k hk).2)
    injection hv with h1 _ h3
    subst h1 h3
    exact ho
  have HI := Lib.hid (indexGone_any A n c ws w.heap.size w hn how.row (Nat.le_refl _) (by omega))
  have H := Lib.hid h
  have HOW := Lib.hid how
  have HN := Lib.hid hn
  clear h how hn
  go_enter Try.func50, Try.ntmps50
  go_wp2_with fail
  refine HI.out.mono ?_
  rintro e w1 ⟨r, rfl, hr, hb1⟩
  have HB1 := Lib.hid hb1
  clear hb1
  rcases hr with ⟨k, rfl, hk, hg, hnk⟩ | ⟨rfl, hg⟩
  · have hkn : k < n := by rw [← HN.out]; exact hk
    obtain ⟨g0, cur0, rfl, hg1, hg2, _, hlc, _⟩ := HOW.out.form (by rw [List.length_map, HN.out]; omega)
    rw [List.length_map, HN.out] at hlc
    have HR0 := Lib.hid (show DelRel ws g0 c lo w k (k + 1) w1 from ⟨by rw [live_take_none hnk hk hg, List.length_take]; omega, [wrCs ws[k]], rfl, by simp, by simp [wrCs], by
      rw [live_take_none hnk hk hg, List.singleton_append, ← List.map_cons, ← List.drop_eq_getElem_cons hk, ← List.map_append, List.take_append_drop]
      exact HOW.out.below HB1.out, HB1.out.mono hlo⟩)
    have hk0 : (0 : Int) ≤ (k : Int) := by omega
    have hk1 : ((k : Int) == -1) = false := by rw [beq_eq_false_iff_ne]; omega
    clear hg hnk hk
    go_wp2
    go_loopw [5, 6] (fun i j wr => ∃ p q : Nat, p < q ∧ q ≤ n ∧ i = .int .i64 p ∧ j = .int .i64 q ∧ Hid (DelRel ws g0 c lo w p q wr)) (fun _ j _ => n - (intOf j).toNat)
    case atStart => exact ⟨k, k + 1, by omega, by omega, rfl, by go_num, HR0⟩
    case round =>
      clear HR0
      obtain ⟨p, q, hpq, hq, rfl, rfl, HR⟩ := hrel
      by_cases hlt : q < n
      · have hql : q < ws.length := by rw [HN.out]; exact hlt
        have hcell : wr.cell? ⟨g0, q * 3, none⟩ = some (.string ws[q].1) ∧ wr.cell? ⟨g0, q * 3 + 1, none⟩ = some (.string ws[q].2.1) ∧ wr.cell? ⟨g0, q * 3 + 2, none⟩ = some (.bool ws[q].2.2) := by
          obtain ⟨h1, M, h2, h3, h4, h5, h6⟩ := HR.out
          have hj : q < ((liveW (ws.take q)).map wrCs ++ (M ++ (ws.drop q).map wrCs)).length := by simp; omega
          have hel : ((liveW (ws.take q)).map wrCs ++ (M ++ (ws.drop q).map wrCs))[q]'hj = wrCs ws[q] := by
            rw [List.getElem_append_right (by rw [List.length_map]; omega), List.getElem_append_right (by rw [List.length_map]; omega)]
            simp only [List.length_map, List.getElem_map, List.getElem_drop]
            congr 2
            omega
          have a0 := h5.cellAt q 0 hj (by omega)
          have a1 := h5.cellAt q 1 hj (by omega)
          have a2 := h5.cellAt q 2 hj (by omega)
          rw [hel] at a0 a1 a2
          exact ⟨a0, a1, a2⟩
        obtain ⟨c0, c1, c2⟩ := hcell
        have hold : ∀ m, m < 3 → ∃ v, wr.cell? ⟨g0, p * 3 + m, none⟩ = some v := fun m hm => by
          obtain ⟨h1, M, h2, h3, h4, h5, h6⟩ := HR.out
          have hj : p < ((liveW (ws.take q)).map wrCs ++ (M ++ (ws.drop q).map wrCs)).length := by simp; omega
          have hl3 : (((liveW (ws.take q)).map wrCs ++ (M ++ (ws.drop q).map wrCs))[p]'hj).length = 3 := by
            have hm := List.getElem_mem hj
            rcases List.mem_append.1 hm with hx | hx
            · exact wrCs_len _ _ hx
            · rcases List.mem_append.1 hx with hx | hx
              · exact h4 _ hx
              · exact wrCs_len _ _ hx
          exact ⟨_, (h5.cellAt p m hj hm).trans (List.getElem?_eq_getElem (by rw [hl3]; exact hm))⟩
        obtain ⟨o0, b0⟩ := hold 0 (by omega)
        obtain ⟨o1, b1⟩ := hold 1 (by omega)
        obtain ⟨o2, b2⟩ := hold 2 (by omega)
        rw [Nat.add_zero] at b0
        have hfz : ∀ m, wr.frozen? ⟨g0, m, none⟩ = false := fun m => by
          obtain ⟨h1, M, h2, h3, h4, h5, h6⟩ := HR.out
          exact h5.freeC m
        have hgw : g0 < wr.heap.size := by
          obtain ⟨h1, M, h2, h3, h4, h5, h6⟩ := HR.out
          exact Nat.lt_of_lt_of_le hg2 h6.size
        have HG := Lib.hid (fun w' => HR.out.gone (w' := w') hlo hql)
        have HK := Lib.hid (fun (w4 : World) k v u (hy : ws[q] = (k, v, u)) => HR.out.keep (w1 := w4) (k := k) (v := v) (u := u) hlo hg1 hql hy)
        obtain ⟨y, hy⟩ : ∃ y, y = ws[q]'hql := ⟨_, rfl⟩
        rw [← hy] at c0 c1 c2 HG HK
        obtain ⟨s1, s2, u⟩ := y
        simp only at c0 c1 c2 HG
        have HK2 := Lib.hid (fun w4 => HK.out w4 s1 s2 u rfl)
        have hq0 : (0 : Int) ≤ (q : Int) := by omega
        have hq1 : (q : Int) < (n : Int) := by omega
        have hp0 : (0 : Int) ≤ (p : Int) := by omega
        have hp1 : (p : Int) < (n : Int) := by omega
        have hbx := below1 wr (.cells #[.string s1, .string s2, .bool u] 74)
        have hnw := heap_alloc_new wr (.cells #[.string s1, .string s2, .bool u] 74)
        have HBX := Lib.hid hbx
        have HNW := Lib.hid hnw
        have F0 := Lib.hid (hfz (p * 3))
        have F1 := Lib.hid (hfz (p * 3 + 1))
        have F2 := Lib.hid (hfz (p * 3 + 2))
        have B0 := Lib.hid b0
        have B1 := Lib.hid b1
        have B2 := Lib.hid b2
        clear hold hfz hy HK hbx hnw b0 b1 b2
        cases u with
        | true =>
          go_wp2_with fail
          refine (isGone_any _ _ _ _).mono ?_
          rintro e w4 ⟨rfl, hb4⟩
          have HN2 := Lib.hid (HG.out w4 (by trivial) (HBX.out.trans (hb4.mono HBX.out.size)))
          clear hb4
          go_wp2
          go_roundw
          case rel => exact ⟨p, q + 1, by omega, by omega, rfl, by go_num, HN2⟩
          case measure => simp [intOf]; omega
        | false =>
          go_wp2_with fail
          refine (isGone_any _ _ _ _).mono ?_
          rintro e w4 ⟨rfl, hb4⟩
          have hb5 := HBX.out.trans (hb4.mono HBX.out.size)
          have HN2 := Lib.hid (HK2.out w4 (by trivial) hb5)
          have x0 := (hb4.cell (p := ⟨wr.heap.size, 0, none⟩) (by simp)).trans (cell_blk (i := 0) HNW.out rfl)
          have x1 := (hb4.cell (p := ⟨wr.heap.size, 1, none⟩) (by simp)).trans (cell_blk (i := 1) HNW.out rfl)
          have x2 := (hb4.cell (p := ⟨wr.heap.size, 2, none⟩) (by simp)).trans (cell_blk (i := 2) HNW.out rfl)
          have b0 := (hb5.cell (p := ⟨g0, p * 3, none⟩) hgw).trans B0.out
          have b1 := (hb5.cell (p := ⟨g0, p * 3 + 1, none⟩) hgw).trans B1.out
          have b2 := (hb5.cell (p := ⟨g0, p * 3 + 2, none⟩) hgw).trans B2.out
          have f0 := (hb5.frozen (p := ⟨g0, p * 3, none⟩) hgw).trans F0.out
          have f1 := (hb5.frozen (p := ⟨g0, p * 3 + 1, none⟩) hgw).trans F1.out
          have f2 := (hb5.frozen (p := ⟨g0, p * 3 + 2, none⟩) hgw).trans F2.out
          clear hb4 hb5
          go_wp2
          go_roundw
          case rel => exact ⟨p + 1, q + 1, by omega, by omega, by go_num, by go_num, HN2⟩
          case measure => simp [intOf]; omega
      · have hqn : q = n := by omega
        subst hqn
        obtain ⟨hpn, hnc, hcm, hpl, cur, hh, hcl, hfin⟩ := HR.out.done HN.out hg1
        have hclr := fun ty => run_clear_at (P := Try.prog) wr 40 74 ty _ Try.underlying40 Try.zeroValue74 g0 (p * 3) (q - p) (c - p) cur 74 hh (by omega) (by rw [zero_len _ _ 3 (by rfl), hcl]; omega) (by
          intro v hv
          have := List.mem_iff_getElem?.1 hv
          obtain ⟨m, hm⟩ := this
          simp [Builtin.zeroCells, Value.cells] at hm
          obtain ⟨m', _, hm⟩ := hm
          rw [← hm]
          have h3 : m' % 3 = 0 ∨ m' % 3 = 1 ∨ m' % 3 = 2 := by omega
          rcases h3 with h3 | h3 | h3 <;> simp [h3, Value.oneCell'])
        have HF := Lib.hid (hfin (wr.setRow g0 (spl cur (p * 3) (Builtin.zeroCells (Value.agg #[Value.string ⟨#[]⟩, Value.string ⟨#[]⟩, Value.bool false]).cells (q - p)).toList).toArray) rfl (below_setRow (Below.refl lo wr) hg1 _))
        obtain ⟨C, hC⟩ : ∃ C, C = (spl cur (p * 3) (Builtin.zeroCells (Value.agg #[Value.string ⟨#[]⟩, Value.string ⟨#[]⟩, Value.bool false]).cells (q - p)).toList).toArray := ⟨_, rfl⟩
        rw [← hC] at hclr HF
        have hcp : ¬ (c = p) := by omega
        have hc63 : c ≤ 9223372036854775807 := by unfold maxLen at hcm; omega
        have hpi : p ≤ q := by omega
        have hpc : p ≤ c := by omega
        have hpi2 : (p : Int) ≤ (q : Int) := by omega
        clear hh hcl hfin hC hpl hcm
        go_wp2
        go_ret
        exact HF.out
  · have HF := Lib.hid (show DelPost ws A c lo w (.returned (.slice A n c)) w1 from ⟨n, by rw [live_none hg, HN.out], rfl, by rw [live_none hg]; exact row_below H.out HB1.out, HB1.out.mono hlo⟩)
    clear hg
    go_wp2
    go_ret
    exact HF.out
end Go.Proofs.Ytohkpcgekoipbaa
