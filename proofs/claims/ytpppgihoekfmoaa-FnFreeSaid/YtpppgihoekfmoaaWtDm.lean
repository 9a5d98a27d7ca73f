/-
  The model's drawing of watches: l10Make.
-/
import Derived.Test.YtpppgihoekfmoaaWtDr
import Derived.Test.YtpppgihoekfmoaaWtN
import Derived.Deep.DeepCutAuto
import Derived.Deep.RegionHeld3
namespace Go.Proofs.Ytpppgihoekfmoaa.Wt
open Go.RowKit
set_option linter.unusedVariables false
set_option linter.unusedSimpArgs false

theorem ck_row {w : World} {lo hi c n : Nat} {A : Option Addr} {ls : List Int} (h : OwnCk w lo hi A c ls) (hn : ls.length = n) : w.ownsRow lo 27 1 (.slice A n c) n ((ls.map ckCs).flatten) := by
  have h7 := Own.toRow h (ckCs_len ls) (by decide)
  rw [List.length_map, hn] at h7
  exact h7
theorem ck_snoc {w' : World} {lo n : Nat} {ls : List Int} {a : Int} {v' : Value} (hn : ls.length = n) (hown : w'.ownsRow lo 27 1 v' (n + 1) ((ls.map ckCs).flatten ++ [.int .i64 a])) : ∃ A5 c5, v' = .slice A5 (n + 1) c5 ∧ OwnCk w' lo w'.heap.size A5 c5 (ls ++ [a]) := by
  have e : (ls.map ckCs).flatten ++ [Value.int .i64 a] = ((ls ++ [a]).map ckCs).flatten := by simp [ckCs]
  rw [e] at hown
  obtain ⟨A5, c5, hv, hl, ho⟩ := Own.ofRow hown (ckCs_len _) (by decide) (hi := w'.heap.size) (fun k hk => (hown.lt k hk).2)
  rw [List.length_map, List.length_append, hn] at hv
  exact ⟨A5, c5, hv, ho⟩
theorem lee_row {w : World} {lo hi c n : Nat} {A : Option Addr} {ls : List (Int × Int × Int)} (h : OwnLe w lo hi A c ls) (hn : ls.length = n) : w.ownsRow lo 55 3 (.slice A n c) n ((ls.map leCs).flatten) := by
  have h7 := Own.toRow h (leCs_len ls) (by decide)
  rw [List.length_map, hn] at h7
  exact h7
theorem lee_snoc {w' : World} {lo n : Nat} {ls : List (Int × Int × Int)} {a b d : Int} {v' : Value} (hn : ls.length = n) (hown : w'.ownsRow lo 55 3 v' (n + 1) ((ls.map leCs).flatten ++ [.int .i64 a, .int .i64 b, .int .i64 d])) : ∃ A5 c5, v' = .slice A5 (n + 1) c5 ∧ OwnLe w' lo w'.heap.size A5 c5 (ls ++ [(a, b, d)]) := by
  have e : (ls.map leCs).flatten ++ [Value.int .i64 a, .int .i64 b, .int .i64 d] = ((ls ++ [(a, b, d)]).map leCs).flatten := by simp [leCs]
  rw [e] at hown
  obtain ⟨A5, c5, hv, hl, ho⟩ := Own.ofRow hown (leCs_len _) (by decide) (hi := w'.heap.size) (fun k hk => (hown.lt k hk).2)
  rw [List.length_map, List.length_append, hn] at hv
  exact ⟨A5, c5, hv, ho⟩
/-- Some watch, its rows the call's own. -/
def WtPost (w : World) (g : Nat) (l : List UInt8) (A : Option Addr) (c q d : Nat) (P : Int → List Int → List (Int × Int × Int) → Prop) (e : Ending) (w' : World) : Prop :=
  ∃ (tm : Int) (A1 : Option Addr) (c1 : Nat) (is : List Int) (A2 : Option Addr) (c2 : Nat) (ls : List (Int × Int × Int)) (q' : Nat), e = .returned (.agg #[.int .i64 tm, .slice A1 is.length c1, .slice A2 ls.length c2]) ∧ OwnCk w' w.heap.size w'.heap.size A1 c1 is ∧ OwnLe w' w.heap.size w'.heap.size A2 c2 ls ∧ P tm is ls ∧ q' ≤ q + d ∧ Cur w' g l A c q' ∧ w.grownBy w' (some g)
/-- A watch in a cell, beside the result's cell. -/
def WRel (w : World) (g : Nat) (l : List UInt8) (A : Option Addr) (c q gd : Nat) (tm : Int) (is : List Int) (ls : List (Int × Int × Int)) (A1 A2 : Option Addr) (c1 c2 n1 n2 : Nat) (wr : World) : Prop :=
  g < w.heap.size ∧ w.heap.size < gd ∧ wr.heap[gd]? = some (.cells #[.int .i64 tm, .slice A1 n1 c1, .slice A2 n2 c2] 30 (0, 0)) ∧ wr.heap[w.heap.size]? = some (.cells #[.int .i64 0, .slice none 0 0, .slice none 0 0] 30 (0, 0)) ∧ Cur wr g l A c q ∧ w.grownBy wr (some g) ∧ is.length = n1 ∧ ls.length = n2 ∧ OwnCk wr (w.heap.size + 1) wr.heap.size A1 c1 is ∧ OwnLe wr (w.heap.size + 1) wr.heap.size A2 c2 ls
section
variable {w wr w2 : World} {g : Nat} {l : List UInt8} {A A1 A2 : Option Addr} {c q q2 gd c1 c2 n1 n2 : Nat} {tm : Int} {is : List Int} {ls : List (Int × Int × Int)}
theorem WRel.of (h : WRel w g l A c q gd tm is ls A1 A2 c1 c2 n1 n2 wr) (hC : Cur w2 g l A c q2) (hG : wr.grownBy w2 (some g)) : WRel w g l A c q2 gd tm is ls A1 A2 c1 c2 n1 n2 w2 := by
  obtain ⟨h1, h2, h3, h4, h5, h6, h7, h8, h9, h10⟩ := h
  exact ⟨h1, h2, block_kept hG h3 (by omega), block_kept hG h4 (by omega), hC, grown_trans h6 hG, h7, h8, Own.wider (own_curG h9 hG (by omega)) (Nat.le_refl _) hG.size, Own.wider (own_curG h10 hG (by omega)) (Nat.le_refl _) hG.size⟩
theorem WRel.bel (h : WRel w g l A c q gd tm is ls A1 A2 c1 c2 n1 n2 wr) (hb : Below wr.heap.size wr w2) : WRel w g l A c q gd tm is ls A1 A2 c1 c2 n1 n2 w2 := by
  obtain ⟨h1, h2, h3, h4, h5, h6, h7, h8, h9, h10⟩ := h
  exact ⟨h1, h2, (hb.block gd (lt_blk h3)).trans h3, (hb.block w.heap.size (lt_blk h4)).trans h4, h5.below hb, grown_below h6 hb, h7, h8, own_growG h9 hb, own_growG h10 hb⟩
theorem WRel.drew (h : WRel w g l A c q gd tm is ls A1 A2 c1 c2 n1 n2 wr) : WRel w g l A c q gd tm is ls A1 A2 c1 c2 n1 n2 wr.drew := h.bel ((Below.refl _ _).drew)
theorem WRel.allocD (h : WRel w g l A c q gd tm is ls A1 A2 c1 c2 n1 n2 wr) (o : Obj) : WRel w g l A c q gd tm is ls A1 A2 c1 c2 n1 n2 (wr.alloc o).drew := h.bel (((Below.refl _ _).alloc (Nat.le_refl _) o).drew)
theorem WRel.cells (h : WRel w g l A c q gd tm is ls A1 A2 c1 c2 n1 n2 wr) : wr.cell? ⟨gd, 0, none⟩ = some (.int .i64 tm) ∧ wr.cell? ⟨gd, 1, none⟩ = some (.slice A1 n1 c1) ∧ wr.cell? ⟨gd, 2, none⟩ = some (.slice A2 n2 c2) := ⟨cell_blk h.2.2.1 rfl, cell_blk h.2.2.1 rfl, cell_blk h.2.2.1 rfl⟩
theorem WRel.rcells (h : WRel w g l A c q gd tm is ls A1 A2 c1 c2 n1 n2 wr) : wr.cell? ⟨w.heap.size, 0, none⟩ = some (.int .i64 0) ∧ wr.cell? ⟨w.heap.size, 1, none⟩ = some (.slice none 0 0) ∧ wr.cell? ⟨w.heap.size, 2, none⟩ = some (.slice none 0 0) := ⟨cell_blk h.2.2.2.1 rfl, cell_blk h.2.2.2.1 rfl, cell_blk h.2.2.2.1 rfl⟩
theorem WRel.fz (h : WRel w g l A c q gd tm is ls A1 A2 c1 c2 n1 n2 wr) (i : Nat) : wr.frozen? ⟨gd, i, none⟩ = false := free_blk h.2.2.1 i
theorem WRel.rfz (h : WRel w g l A c q gd tm is ls A1 A2 c1 c2 n1 n2 wr) (i : Nat) : wr.frozen? ⟨w.heap.size, i, none⟩ = false := free_blk h.2.2.2.1 i
theorem WRel.cur (h : WRel w g l A c q gd tm is ls A1 A2 c1 c2 n1 n2 wr) : Cur wr g l A c q := h.2.2.2.2.1
theorem WRel.cks (h : WRel w g l A c q gd tm is ls A1 A2 c1 c2 n1 n2 wr) : CksB wr wr.heap.size A1 is := OwnCk.cks h.2.2.2.2.2.2.2.2.1
theorem WRel.les (h : WRel w g l A c q gd tm is ls A1 A2 c1 c2 n1 n2 wr) : LesB wr wr.heap.size A2 ls := OwnLe.les h.2.2.2.2.2.2.2.2.2
/-- A watch stored into its cell: its rows are the call's own. -/
theorem WRel.set {tm' : Int} {is' : List Int} {ls' : List (Int × Int × Int)} {B1 B2 : Option Addr} {d1 d2 m1 m2 lo : Nat} (h : WRel w g l A c q gd tm is ls A1 A2 c1 c2 n1 n2 wr) (hlo : w.heap.size + 1 ≤ lo) (hi : OwnCk wr lo wr.heap.size B1 d1 is') (hl : OwnLe wr lo wr.heap.size B2 d2 ls') (e1 : is'.length = m1) (e2 : ls'.length = m2) :
    WRel w g l A c q gd tm' is' ls' B1 B2 d1 d2 m1 m2 (((wr.setCell ⟨gd, 0, none⟩ (.int .i64 tm')).setCell ⟨gd, 1, none⟩ (.slice B1 m1 d1)).setCell ⟨gd, 2, none⟩ (.slice B2 m2 d2)) := by
  obtain ⟨h1, h2, h3, h4, h5, h6, h7, h8, h9, h10⟩ := h
  have b1 := set_blkW (i := 0) (v := .int .i64 tm') h3
  have b2 := set_blkW (i := 1) (v := .slice B1 m1 d1) b1
  have b3 := set_blkW (i := 2) (v := .slice B2 m2 d2) b2
  refine ⟨h1, h2, b3, ?_, ?_, ?_, e1, e2, ?_, ?_⟩
  · exact (Below.heap_setCell _ _ _ _ (by show w.heap.size ≠ gd; omega)).trans ((Below.heap_setCell _ _ _ _ (by show w.heap.size ≠ gd; omega)).trans ((Below.heap_setCell _ _ _ _ (by show w.heap.size ≠ gd; omega)).trans h4))
  · exact ((h5.setNew (p := ⟨gd, 0, none⟩) (by show g < gd; omega) _).setNew (p := ⟨gd, 1, none⟩) (by show g < gd; omega) _).setNew (p := ⟨gd, 2, none⟩) (by show g < gd; omega) _
  · exact grown_setNew (p := ⟨gd, 2, none⟩) (grown_setNew (p := ⟨gd, 1, none⟩) (grown_setNew (p := ⟨gd, 0, none⟩) h6 (by show w.heap.size ≤ gd; omega) _) (by show w.heap.size ≤ gd; omega) _) (by show w.heap.size ≤ gd; omega) _
  · have g1 := Own.otherT (p := ⟨gd, 0, none⟩) hi h3 (by decide) (.int .i64 tm')
    have g2 := Own.otherT (p := ⟨gd, 1, none⟩) g1 b1 (by decide) (.slice B1 m1 d1)
    have g3 := Own.otherT (p := ⟨gd, 2, none⟩) g2 b2 (by decide) (.slice B2 m2 d2)
    exact Own.wider g3 hlo (by simp [World.setCell])
  · have g1 := Own.otherT (p := ⟨gd, 0, none⟩) hl h3 (by decide) (.int .i64 tm')
    have g2 := Own.otherT (p := ⟨gd, 1, none⟩) g1 b1 (by decide) (.slice B1 m1 d1)
    have g3 := Own.otherT (p := ⟨gd, 2, none⟩) g2 b2 (by decide) (.slice B2 m2 d2)
    exact Own.wider g3 hlo (by simp [World.setCell])
/-- The watch stored as the result. -/
theorem WRel.result {P : Int → List Int → List (Int × Int × Int) → Prop} {q0 d : Nat} (h : WRel w g l A c q gd tm is ls A1 A2 c1 c2 n1 n2 wr) (hq : q ≤ q0 + d) (hP : P tm is ls) :
    WtPost w g l A c q0 d P (.returned (.agg #[.int .i64 tm, .slice A1 n1 c1, .slice A2 n2 c2])) (((wr.setCell ⟨w.heap.size, 0, none⟩ (.int .i64 tm)).setCell ⟨w.heap.size, 1, none⟩ (.slice A1 n1 c1)).setCell ⟨w.heap.size, 2, none⟩ (.slice A2 n2 c2)) := by
  obtain ⟨h1, h2, h3, h4, h5, h6, h7, h8, h9, h10⟩ := h
  refine ⟨tm, A1, c1, is, A2, c2, ls, q, by rw [h7, h8], ?_, ?_, hP, hq, ?_, ?_⟩
  · exact (OwnCk.put3 h9 (by omega)).wider (by omega) (by simp [World.setCell])
  · exact (OwnLe.put3 h10 (by omega)).wider (by omega) (by simp [World.setCell])
  · exact ((h5.setNew (p := ⟨w.heap.size, 0, none⟩) h1 _).setNew (p := ⟨w.heap.size, 1, none⟩) h1 _).setNew (p := ⟨w.heap.size, 2, none⟩) h1 _
  · exact grown_setNew (p := ⟨w.heap.size, 2, none⟩) (grown_setNew (p := ⟨w.heap.size, 1, none⟩) (grown_setNew (p := ⟨w.heap.size, 0, none⟩) h6 (Nat.le_refl _) _) (Nat.le_refl _) _) (Nat.le_refl _) _
end
theorem grown_appB {w w1 w2 : World} {g base n sz : Nat} {e : TypeId} {v : Value} {xs : List Value} {o : Obj} (hG : w.grownBy w1 (some g)) (hb : w.heap.size ≤ base) (h : w1.ownsRow base e sz v n xs) (hg : (w1.alloc o).grownBy w2 v.ownBlock) : w.grownBy w2 (some g) := by
  refine ⟨hg.os.trans hG.os, hg.tape.trans hG.tape, hg.output.trans hG.output, ?_, fun k hk hr => ?_⟩
  · have h1 := hG.size
    have h2 := hg.size
    simp at h2
    omega
  · have h1 := hG.size
    have hne : some k ≠ v.ownBlock := fun e => by have := (h.lt k e.symm).1; omega
    rw [hg.block k (by simp; omega) hne, Below.heap_alloc w1 o k (by omega), hG.block k hk hr]
theorem new_good {L : List Int} (h1 : 1 ≤ L.length) (h2 : L.length ≤ 5) (h : ∀ x ∈ L, -5 ≤ x ∧ x ≤ 5) : wchB 0 L [] = true := by
  unfold wchB
  have hc : clksB L = true := by
    unfold clksB
    rw [List.all_eq_true]
    intro x hx
    have := h x hx
    unfold inB
    simp; omega
  rw [hc]
  simp [inB]
  omega
theorem pass_good {b : Int} {L : List Int} (h : wchB 0 L [] = true) (h0 : 0 ≤ b) (h1 : b ≤ 100000) : passW 0 L [] b = (b, L, [], true) ∧ wchB b L [] = true := by
  have hw : wchB b L [] = true := by
    unfold wchB at h ⊢
    simp only [Bool.and_eq_true] at h ⊢
    refine ⟨?_, h.2⟩
    unfold inB; simp; omega
  have hb : inB b 0 100000 = true := by unfold inB; simp; omega
  refine ⟨?_, hw⟩
  unfold passW
  rw [h, hb]
  simp [ifW, hw]
theorem run_all {s : Int × List Int × List (Int × Int × Int)} (h : runB s) : ∀ (acts : List (Int × Int × Int)), runB (acts.foldl nextW s) := by
  intro acts
  induction acts generalizing s with
  | nil => exact h
  | cons a l ih => exact ih (run_next h)
theorem play_good {b : Int} {L : List Int} (hw : wchB b L [] = true) (acts : List (Int × Int × Int)) (hl : acts.length ≤ 100) : ∃ tm is ls, playW b L [] acts = (tm, is, ls, true) ∧ wchB tm is ls = true := by
  have hr := run_all (s := (b, L, [])) ⟨hw, List.Pairwise.nil⟩ acts
  exact ⟨_, _, _, by unfold playW; rw [hw, decide_eq_true hl]; rfl, hr.1⟩
def passD : List Int := [0, 3, 50, 99950]
theorem passD_all : ∀ x ∈ passD, 0 ≤ x ∧ x ≤ 100000 := by decide

set_option maxRecDepth 100000 in
set_option maxHeartbeats 8000000 in
theorem l10Make_any (g : Nat) (l : List UInt8) (A : Option Addr) (c q : Nat) (w : World) (h : Cur w g l A c q) (hl : l.length ≤ 1048576) (hq : q ≤ 600000000) :
    Calls Try.prog 57 #[.pointer (some ⟨g, 0, none⟩), .int .i64 16] w (WtPost w g l A c q 300 (fun tm is ls => wchB tm is ls = true)) := by
  obtain ⟨i0, hi0, hz0, hz1, hz2⟩ := info_parts infoCk
  have hlt := h.lt
  have HC0 := Lib.hid ((h.allocated (.cells #[.int .i64 0, .slice none 0 0, .slice none 0 0] 30)).allocated (.cells #[] 27))
  have HN0 := Lib.hid (own_newG (w.alloc (.cells #[.int .i64 0, .slice none 0 0, .slice none 0 0] 30)) 27 1 (by decide))
  have HG0 := Lib.hid (grown_trans (World.grownBy_alloc w (.cells #[.int .i64 0, .slice none 0 0, .slice none 0 0] 30) (some g)) (World.grownBy_alloc (w.alloc (.cells #[.int .i64 0, .slice none 0 0, .slice none 0 0] 30)) (.cells #[] 27) (some g)))
  have HR0 := Lib.hid (((below1 (w.alloc (.cells #[.int .i64 0, .slice none 0 0, .slice none 0 0] 30)) (.cells #[] 27)).block w.heap.size (by simp)).trans (heap_alloc_new w (.cells #[.int .i64 0, .slice none 0 0, .slice none 0 0] 30)))
  rw [World.size_alloc] at HN0
  clear h
  go_enter Try.func57, Try.ntmps57
  go_wp2_with fail
  refine (pick_any g l A c q 4 _ HC0.out hl (by omega) (by omega) (by omega)).mono ?_
  rintro e w1 ⟨x, q1, hx0, hx1, rfl, hq1, hC1, hG1⟩
  have HO1 := Lib.hid (show OwnCk w1 (w.heap.size + 1) w1.heap.size (some ⟨w.heap.size + 1, 0, none⟩) 0 [] from Own.wider (own_curG HN0.out hG1 (by omega)) (Nat.le_refl _) hG1.size)
  have HR1 := Lib.hid (block_kept hG1 HR0.out (by omega))
  have HC1 := Lib.hid hC1
  have HG1 := Lib.hid (grown_trans HG0.out hG1)
  clear hC1 hG1 HC0 HN0 HG0 HR0
  go_wp2
  obtain ⟨n, hn⟩ : ∃ n : Nat, 1 + x = (n : Int) := nat_of (by omega)
  rw [hn]
  have hn4 : n ≤ 4 := by omega
  have hn1 : 1 ≤ n := by omega
  clear hn hx0 hx1
  go_loopw [5, 7] (fun v i wr => ∃ (k q2 : Nat) (A1 : Option Addr) (ca : Nat) (L : List Int), k ≤ n ∧ i = .int .i64 k ∧ v = .slice A1 k ca ∧ Hid (L.length = k) ∧ Hid (∀ x ∈ L, -5 ≤ x ∧ x ≤ 5) ∧ Hid (OwnCk wr (w.heap.size + 1) wr.heap.size A1 ca L) ∧ Hid (wr.heap[w.heap.size]? = some (.cells #[.int .i64 0, .slice none 0 0, .slice none 0 0] 30 (0, 0))) ∧ q2 ≤ q + 2 + 2 * k ∧ Hid (Cur wr g l A c q2) ∧ Hid (w.grownBy wr (some g))) (fun _ i _ => n - (intOf i).toNat)
  case atStart => exact ⟨0, q1, some ⟨w.heap.size + 1, 0, none⟩, 0, [], by omega, rfl, rfl, Lib.hid rfl, Lib.hid (by intro x hx; cases hx), HO1, HR1, by omega, HC1, HG1⟩
  case round =>
    clear HC1 HG1 HO1 HR1
    obtain ⟨k, q2, A1, ca, L, hk, rfl, rfl, HLM, HOF, HO, HR, hq2, HC, HG⟩ := hrel
    have hws := HG.out.size
    by_cases hkn : k < n
    · have hkni : (k : Int) < (n : Int) := by omega
      go_wp2_with fail
      refine (pick_any g l A c q2 11 _ HC.out hl (by omega) (by omega) (by omega)).mono ?_
      rintro e w2 ⟨y, q3, hy0, hy1, rfl, hq3, hC2, hG2⟩
      have HO2 := Lib.hid (show OwnCk w2 (w.heap.size + 1) w2.heap.size A1 ca L from Own.wider (own_curG HO.out hG2 (by omega)) (Nat.le_refl _) hG2.size)
      have HR2 := Lib.hid (block_kept hG2 HR.out (by omega))
      have HG2 := Lib.hid (grown_trans HG.out hG2)
      have HC2 := Lib.hid hC2
      have hsz2 := HG2.out.size
      have HROL := Lib.hid (ck_row HO2.out HLM.out)
      have HROW := Lib.hid (row_below HROL.out (below1 w2 (.cells #[.int .i64 (y - 5)] 27)))
      have HNEW := Lib.hid (heap_alloc_new w2 (.cells #[.int .i64 (y - 5)] 27))
      have hlt2 := lt_blk HR2.out
      have hlx : w.heap.size + 1 ≤ (w2.alloc (.cells #[.int .i64 (y - 5)] 27)).heap.size := by simp; omega
      have HN1 := Lib.hid (show (L ++ [y - 5]).length = k + 1 by rw [List.length_append, HLM.out]; rfl)
      have HOF1 := Lib.hid (show ∀ x ∈ L ++ [y - 5], -5 ≤ x ∧ x ≤ 5 by
        intro x hx
        rcases List.mem_append.1 hx with h1 | h1
        · exact HOF.out x h1
        · rw [List.mem_singleton.1 h1]; omega)
      clear hC2 hG2
      go_wp2_with (at_builtin; refine wpList_app rfl (.tmp 19) (.tmp 24) 24 rfl (w.heap.size + 1) 27 i0 _ 1 8 Try.underlying24 hi0 hz0 hz1 hz2 rfl (by decide) (.slice A1 k ca) k ((L.map ckCs).flatten) rfl HROW.out (some ⟨w2.heap.size, 0, none⟩) 1 1 [.int .i64 (y - 5)] rfl rfl (fun _ => ⟨_, rfl, World.news_of_block (cs := #[.int .i64 (y - 5)]) (t := 27) (fr := (0, 0)) HNEW.out⟩) (by simp [Value.oneCell']) (by unfold maxLen; omega) (by omega) hlx ?_; intro v5 w9 hown hgr _; have HB9 := Lib.hid (below_app (Below.refl (w.heap.size + 1) w2) (by omega) HROL.out hgr); have HG9 := Lib.hid (show w.grownBy w9 (some g) from grown_appB HG2.out (Nat.le_succ _) HROL.out hgr); have HC9 := Lib.hid (HC2.out.belowB HB9.out (by omega)); have HR9 := Lib.hid ((HB9.out.block w.heap.size (by omega)).trans HR2.out); obtain ⟨A5, c5, rfl, ho5⟩ := ck_snoc HLM.out hown; have HO9 := Lib.hid ho5; clear hown hgr ho5)
      go_roundw
      case rel => exact ⟨k + 1, q3, A5, c5, L ++ [y - 5], by omega, by go_num, rfl, HN1, HOF1, HO9, HR9, by omega, HC9, HG9⟩
      case measure => simp [intOf]; omega
    · have hkn0 : k = n := by omega
      subst hkn0
      have hkk : ¬ ((k : Int) < (k : Int)) := by omega
      have HGD := Lib.hid (new_good (L := L) (by rw [HLM.out]; omega) (by rw [HLM.out]; omega) HOF.out)
      have HNW := Lib.hid (specNewWatch_any A1 k ca L wr.heap.size wr HLM.out HO.out.cks (Nat.le_refl _) (by omega))
      rw [show newW L = (0, L, [], true) by unfold newW ifW; rw [HGD.out]; rfl, WAPost_un, HLM.out] at HNW
      go_wp2_with fail
      refine HNW.out.mono ?_
      rintro e w2 ⟨A3, c3, A4, c4, rfl, ho2, ho3, hb2⟩
      have HW := Lib.hid (show WRel w g l A c q2 w2.heap.size 0 L [] A3 A4 c3 c4 k 0 (w2.alloc (.cells #[.int .i64 0, .slice A3 k c3, .slice A4 0 c4] 30)) from
        ⟨hlt, by have h1 := hb2.size; have h2 := lt_blk HR.out; omega, heap_alloc_new _ _, (Below.heap_alloc _ _ _ (by have h1 := hb2.size; have h2 := lt_blk HR.out; omega)).trans ((hb2.block _ (lt_blk HR.out)).trans HR.out), (HC.out.below hb2).allocated _, grown_alloc (grown_below HG.out hb2) _, HLM.out, rfl, own_growG (Own.wider ho2 (by have h2 := lt_blk HR.out; omega) (Nat.le_refl _)) (below1 _ _), own_growG (Own.wider ho3 (by have h2 := lt_blk HR.out; omega) (Nat.le_refl _)) (below1 _ _)⟩)
      clear ho2 ho3 hb2 HC HG HR HO HNW HOF
      obtain ⟨gd, hgd⟩ : ∃ gd, gd = w2.heap.size := ⟨_, rfl⟩
      rw [← hgd] at HW
      go_upto_region 8 with fail
      rw [← hgd]
      generalize w2.alloc (.cells #[.int .i64 0, .slice A3 k c3, .slice A4 0 c4] 30) = W2 at *
      clear hgd
      have HI := Lib.hid (HW.out.allocD (.cells (passD.map (Value.int .i64)).toArray 3))
      have HAM := Lib.hid (among_any g l A c q2 W2.heap.size 4 4 passD (W2.alloc (.cells (passD.map (Value.int .i64)).toArray 3)).drew HI.out.cur hl (by omega) rfl (by omega) (by omega) (by have := HW.out.cur.lt; omega) (new_ints W2 passD 3))
      have HPT := Lib.hid (fun b q' W (hW : WRel w g l A c q' gd 0 L [] A3 A4 c3 c4 k 0 W) => specPassTime_any 0 A3 A4 k c3 0 c4 L [] b W.heap.size W HLM.out rfl (WRel.cks hW) (WRel.les hW) (Nat.le_refl _))
      obtain ⟨c0, c1, c2⟩ := HW.out.cells
      obtain ⟨i0', i1', i2'⟩ := (show ((W2.alloc (.cells #[.int .i64 0, .int .i64 3, .int .i64 50, .int .i64 99950] 3)).drew).cell? ⟨gd, 0, none⟩ = some (.int .i64 0) ∧ ((W2.alloc (.cells #[.int .i64 0, .int .i64 3, .int .i64 50, .int .i64 99950] 3)).drew).cell? ⟨gd, 1, none⟩ = some (.slice A3 k c3) ∧ ((W2.alloc (.cells #[.int .i64 0, .int .i64 3, .int .i64 50, .int .i64 99950] 3)).drew).cell? ⟨gd, 2, none⟩ = some (.slice A4 0 c4) from HI.out.cells)
      have zl := lt_blk HW.out.2.2.1
      go_region_law (first
        | ((go_simp; go_at_call 39; (refine HAM.out.mono ?_); rintro e w3 ⟨b, q3, hb, rfl, hq3, hC3, hG3⟩; have HW3 := Lib.hid (HI.out.of hC3 hG3); obtain ⟨x0, x1, x2⟩ := HW3.out.cells; have HPG := Lib.hid (pass_good HGD.out (passD_all b hb).1 (passD_all b hb).2)))
        | ((go_simp; go_at_call 50; (with_reducible refine (HPT.out b q3 _ HW3.out).mono ?_); rw [HPG.out.1, WAPost_un, HLM.out]; rintro e w4 ⟨A5, c5, A6, c6, rfl, ho5, ho6, hb4⟩; have HW4 := Lib.hid (HW3.out.bel hb4); obtain ⟨y0, y1, y2⟩ := HW4.out.cells; have fz0 := HW4.out.fz 0; have fz1 := HW4.out.fz 1; have fz2 := HW4.out.fz 2)))
      all_goals (
        have HW5 := Lib.hid (show WRel w g l A c q3 gd b L [] A5 A6 c5 c6 k 0 _ from HW4.out.set (Nat.le_trans (by have h9 := lt_blk HW3.out.2.2.2.1; omega) (Nat.le_refl _)) ho5 ho6 HLM.out rfl)
        clear c0 c1 c2 i0' i1' i2' x0 x1 x2 y0 y1 y2 fz0 fz1 fz2
        go_upto_region 9 with fail
        generalize ((w4.setCell ⟨gd, 0, none⟩ (.int .i64 b)).setCell ⟨gd, 1, none⟩ (.slice A5 k c5)).setCell ⟨gd, 2, none⟩ (.slice A6 0 c6) = W5 at *
        have HD5 := Lib.hid HW5.out.drew
        have HAC := Lib.hid (l10Acts_any g l A c q3 W5.drew HD5.out.cur hl (by omega))
        have HPL := Lib.hid (fun q' W A7 ca7 acts (hW : WRel w g l A c q' gd b L [] A5 A6 c5 c6 k 0 W) (hA : LesB W W.heap.size A7 acts) (hlen : acts.length ≤ 16) => specPlayWatch_any b A5 A6 k c5 0 c6 L [] A7 acts.length ca7 acts W.heap.size W HLM.out rfl (WRel.cks hW) (WRel.les hW) (Nat.le_refl _) rfl hA (by unfold maxLen; omega))
        obtain ⟨c0, c1, c2⟩ := HW5.out.cells
        go_region_law (first
          | ((go_simp; go_at_call 64; (with_reducible refine HAC.out.mono ?_); rintro e w6 ⟨A7, ca7, acts, q6, rfl, hoa, hla, hq6, hC6, hG6⟩; have HW6 := Lib.hid (HD5.out.of hC6 hG6); have HLA := Lib.hid hoa.les; obtain ⟨x0, x1, x2⟩ := HW6.out.cells; obtain ⟨tm, is, ls, hpl, hgd⟩ := play_good HPG.out.2 acts (by omega)))
          | ((go_simp; go_at_call 12; (with_reducible refine (HPL.out q6 _ A7 ca7 acts HW6.out HLA.out hla).mono ?_); rw [hpl, WAPost_un]; rintro e w7 ⟨A8, c8, A9, c9, rfl, ho8, ho9, hb7⟩; have HW7 := Lib.hid (HW6.out.bel hb7); obtain ⟨y0, y1, y2⟩ := HW7.out.cells; have fz0 := HW7.out.fz 0; have fz1 := HW7.out.fz 1; have fz2 := HW7.out.fz 2)))
        all_goals (
          have HW8 := Lib.hid (show WRel w g l A c q6 gd tm is ls A8 A9 c8 c9 is.length ls.length _ from HW7.out.set (Nat.le_trans (by have h9 := lt_blk HW6.out.2.2.2.1; omega) (Nat.le_refl _)) ho8 ho9 rfl rfl)
          clear c0 c1 c2 x0 x1 x2 y0 y1 y2 fz0 fz1 fz2
          go_upto_region 10 with fail
          generalize ((w7.setCell ⟨gd, 0, none⟩ (.int .i64 tm)).setCell ⟨gd, 1, none⟩ (.slice A8 is.length c8)).setCell ⟨gd, 2, none⟩ (.slice A9 ls.length c9) = W8 at *
          obtain ⟨c0, c1, c2⟩ := HW8.out.cells
          obtain ⟨r0, r1, r2⟩ := HW8.out.rcells
          have fz0 := HW8.out.rfz 0
          have fz1 := HW8.out.rfz 1
          have fz2 := HW8.out.rfz 2
          go_wp2
          exact bodyPost_ret (v := .agg #[.int .i64 tm, .slice A8 is.length c8, .slice A9 ls.length c9]) (by simp [results, Try.results57, go_sem, r0, r1, r2, fz0, fz1, fz2]) rfl (HW8.out.result (by omega) hgd)))
end Go.Proofs.Ytpppgihoekfmoaa.Wt
