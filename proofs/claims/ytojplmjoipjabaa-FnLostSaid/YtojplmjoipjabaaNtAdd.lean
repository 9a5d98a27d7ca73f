/-
  The contract of addLetter: a letter put into a net's queue through a pointer.
-/
import Derived.Test.YtojplmjoipjabaaNtAddM
namespace Go.Proofs.Ytojplmjoipjabaa.Nt
open Go.RowKit
set_option linter.unusedVariables false
set_option linter.unusedSimpArgs false

set_option maxRecDepth 100000 in
set_option maxHeartbeats 4000000 in
theorem addLetter_any (g : Nat) (A : Option Addr) (n c lo hi : Nat) (v0 v1 v2 : Value) (ls : List (Int × Int × Int × ByteArray)) (f t d : Int) (s : ByteArray) (w : World) (hn : ls.length = n) (hg : w.heap[g]? = some (.cells #[v0, v1, v2, .slice A n c] 35 (0, 0))) (ho : OwnL w lo hi A c ls) (hhi : hi ≤ g) (hlo : lo ≤ hi) (hasc : Asc ls) (hl : n ≤ 1048575) :
    Calls Try.prog 74 #[.pointer (some ⟨g, 3, none⟩), .agg #[.int .i64 f, .int .i64 t, .int .i64 d, .string s]] w (AddPost g A lo v0 v1 v2 (insL ls (f, t, d, s)) w) := by
  have hgw := lt_blk hg
  have hb0 := below1 w (.cells #[.int .i64 f, .int .i64 t, .int .i64 d, .string s] 66)
  have hkb := heap_alloc_new w (.cells #[.int .i64 f, .int .i64 t, .int .i64 d, .string s] 66)
  have x0 : (w.alloc (.cells #[.int .i64 f, .int .i64 t, .int .i64 d, .string s] 66)).cell? ⟨w.heap.size, 0, none⟩ = some (.int .i64 f) := cell_of_row _ _ 0 _ 66 (0, 0) hkb
  have x1 : (w.alloc (.cells #[.int .i64 f, .int .i64 t, .int .i64 d, .string s] 66)).cell? ⟨w.heap.size, 1, none⟩ = some (.int .i64 t) := cell_of_row _ _ 1 _ 66 (0, 0) hkb
  have x2 : (w.alloc (.cells #[.int .i64 f, .int .i64 t, .int .i64 d, .string s] 66)).cell? ⟨w.heap.size, 2, none⟩ = some (.int .i64 d) := cell_of_row _ _ 2 _ 66 (0, 0) hkb
  have x3 : (w.alloc (.cells #[.int .i64 f, .int .i64 t, .int .i64 d, .string s] 66)).cell? ⟨w.heap.size, 3, none⟩ = some (.string s) := cell_of_row _ _ 3 _ 66 (0, 0) hkb
  have hg0 := (hb0.block g hgw).trans hg
  have q3 : (w.alloc (.cells #[.int .i64 f, .int .i64 t, .int .i64 d, .string s] 66)).cell? ⟨g, 3, none⟩ = some (.slice A n c) := cell_of_row _ _ 3 _ 35 (0, 0) hg0
  have ho0 := ho.since hb0 (by omega)
  have hdk := dueK_le ls d
  rw [hn] at hdk
  obtain ⟨k, hk⟩ : ∃ k, k = dueK ls d := ⟨_, rfl⟩
  have hins := flat_ins ls (f, t, d, s)
  simp only at hins
  have hlen := insL_len ls (f, t, d, s)
  obtain ⟨us, hus⟩ : ∃ us, us = insL ls (f, t, d, s) := ⟨_, rfl⟩
  rw [← hus] at hins hlen ⊢
  rw [← hk] at hins hdk
  rw [hn] at hlen
  have hany : ∀ (vb : Nat) (W : World), OwnL W lo hi A c ls → W.heap[vb]? = some (.cells #[.int .i64 f, .int .i64 t, .int .i64 d, .string s] 66 (0, 0)) → vb ≠ g → w.heap.size ≤ W.heap.size → g < vb → Calls Try.prog 113 #[.slice A n c, .int .i64 (k : Int), .slice (some ⟨vb, 0, none⟩) 1 1] W (InsPost lo 66 4 n (.slice A n c) ((us.map ltCs).flatten) W) := fun vb W hO hb hvg hsz hgv => by
    have := insL_any A n c k ((ls.map ltCs).flatten) lo vb [.int .i64 f, .int .i64 t, .int .i64 d, .string s] W (OwnL.toR hO hn) hdk hb rfl (by simp [Value.oneCell']) (ltCs_one ls) (fun x hx => by have := (Own.block hO x hx).2.1; omega) (by omega) (by omega)
    rw [← hins]
    exact this
  have HANY := Lib.hid hany
  have HLEN := Lib.hid hlen
  have HO0 := Lib.hid ho0
  have HG0 := Lib.hid hg0
  have HHO := Lib.hid ho
  go_enter Try.func74, Try.ntmps74
  go_wp2_with fail
  obtain ⟨W0, hW0⟩ : ∃ W0, W0 = w.alloc (.cells #[.int .i64 f, .int .i64 t, .int .i64 d, .string s] 66) := ⟨_, rfl⟩
  have hsz0 : W0.heap.size = w.heap.size + 1 := by rw [hW0]; simp
  rw [← hW0] at hb0 HO0 HG0 x0 x1 x2 x3 q3 ⊢
  have HDU := Lib.hid (fun W (hW : Below W0.heap.size W0 W) => show Calls Try.prog 83 #[.slice A n c, .int .i64 d] W fun e w' => e = .returned (.int .i64 ((k : Nat) : Int)) ∧ Below W.heap.size W w' by
    rw [hk]
    exact dueBy_any A n c ls d hi W hn ((HO0.out.since hW (by omega)).lets) (by have := hW.size; omega) hasc (by omega))
  have hbel := Below.refl W0.heap.size W0
  have hbx : Below W0.heap.size W0 (W0.alloc (.cells #[.int .i64 f, .int .i64 t, .int .i64 d, .string s] 66)) := (Below.refl _ _).alloc (Nat.le_refl _) _
  have HB0 := Lib.hid hb0
  have HGN := Lib.hid (show ∀ x, A = some x → x.block ≠ g from fun x hx => by have := (Own.block HHO.out x hx).2.1; omega)
  have hgW : g < w.heap.size := hgw
  have HOA := Lib.hid (fun W (hW : Below W0.heap.size W0 W) => show OwnL (W.alloc (.cells #[.int .i64 f, .int .i64 t, .int .i64 d, .string s] 66)) lo hi A c ls from ((HO0.out.since hW (by omega)).since (below1 W _) (by have := hW.size; omega)))
  have HOB := Lib.hid (fun W (hW : Below W0.heap.size W0 W) => show OwnL W lo hi A c ls from HO0.out.since hW (by omega))
  have HNE := Lib.hid (fun W (hW : Below W0.heap.size W0 W) => show W.heap.size ≠ g by have := hW.size; omega)
  have HLT := Lib.hid (fun W (hW : Below W0.heap.size W0 W) => show g < W.heap.size by have := hW.size; omega)
  have HSZ := Lib.hid (fun W (hW : Below W0.heap.size W0 W) => show w.heap.size ≤ (W.alloc (.cells #[.int .i64 f, .int .i64 t, .int .i64 d, .string s] 66)).heap.size by have := hW.size; simp; omega)
  have HSB := Lib.hid (fun W (hW : Below W0.heap.size W0 W) => show w.heap.size ≤ W.heap.size by have := hW.size; omega)
  have hog : ∀ x, (Value.slice A n c).ownBlock = some x → x < hi := fun x hx => by
    cases A with
    | none => simp [Value.ownBlock] at hx
    | some a => have := (Own.block HHO.out a rfl).2.1; simp [Value.ownBlock] at hx; omega
  have htwo : ∀ W W', Below w.heap.size w W → W.grownBy W' (Value.slice A n c).ownBlock → TwoA g A w W' ∧ W'.heap[g]? = some (.cells #[v0, v1, v2, .slice A n c] 35 (0, 0)) := fun W W' hW hgr =>
    ⟨⟨hgr.os.trans hW.os, hgr.tape.trans hW.tape, hgr.output.trans hW.output, Nat.le_trans hW.size hgr.size, fun b hb hbg hbA => (hgr.block b (Nat.lt_of_lt_of_le hb hW.size) (fun e => by
      cases A with
      | none => simp [Value.ownBlock] at e
      | some x => exact hbA x rfl (by simpa [Value.ownBlock] using e.symm))).trans (hW.block b hb)⟩,
      (hgr.block g (Nat.lt_of_lt_of_le hgw hW.size) (fun e => by have := hog g e.symm; omega)).trans ((hW.block g hgw).trans hg)⟩
  have HTA := Lib.hid (fun W W' (hW : Below W0.heap.size W0 W) (hgr : (W.alloc (.cells #[.int .i64 f, .int .i64 t, .int .i64 d, .string s] 66)).grownBy W' (Value.slice A n c).ownBlock) => htwo _ W' ((hb0.trans (hW.mono hb0.size)).alloc (by have := hW.size; omega) _) hgr)
  have HTB := Lib.hid (fun W W' (hW : Below W0.heap.size W0 W) (hgr : W.grownBy W' (Value.slice A n c).ownBlock) => htwo _ W' (hb0.trans (hW.mono hb0.size)) hgr)
  have HFIN := Lib.hid (show ∀ w6 v6, w6.ownsRow lo 66 4 v6 (n + 1) ((us.map ltCs).flatten) → (TwoA g A w w6 ∧ w6.heap[g]? = some (.cells #[v0, v1, v2, .slice A n c] 35 (0, 0))) → ∃ A2 c2, v6 = .slice A2 (n + 1) c2 ∧ w6.cell? ⟨g, 3, none⟩ = some (.slice A n c) ∧ w6.frozen? ⟨g, 3, none⟩ = false ∧ AddPost g A lo v0 v1 v2 us w (.returned (.tuple #[])) (w6.setCell ⟨g, 3, none⟩ (.slice A2 (n + 1) c2)) from fun w6 v6 hrow ⟨ht, hgb⟩ => by
    obtain ⟨A2, c2, rfl, hown⟩ := ownL_of hrow rfl HLEN.out
    refine ⟨A2, c2, rfl, cell_of_row _ _ 3 _ 35 (0, 0) hgb, free_blk hgb 3, A2, c2, rfl, ?_, ?_, ?_⟩
    · rw [HLEN.out]; exact set_blk hgb
    · have hne : ∀ x, A2 = some x → x.block ≠ g := fun x hx e => by
        obtain ⟨_, _, cu, hcu⟩ := Own.block hown x hx
        rw [e, hgb] at hcu
        simp at hcu
      have h2 : OwnL (w6.setCell ⟨g, 3, none⟩ (.slice A2 (n + 1) c2)) lo w6.heap.size A2 c2 us := Own.other hown hne _
      exact h2.wider (Nat.le_refl _) (by simp [World.setCell])
    · exact ⟨ht.1, ht.2.1, ht.2.2.1, by simpa [World.setCell] using ht.2.2.2.1, fun b hb hbg hbA => (Below.heap_setCell _ _ _ _ hbg).trans (ht.2.2.2.2 b hb hbg hbA)⟩)
  clear htwo hW0 hk hins hlen hus hany ho ho0 hg hg0 hkb hn hasc hdk
  have hgW0 : g < W0.heap.size := by omega
  have hlw0 : w.heap.size < W0.heap.size := by omega
  clear hsz0
  go_region_law (first
      | (go_simp; go_at_call 83; (with_reducible refine (HDU.out _ hbel.drew).mono ?_); rintro e w5 ⟨rfl, hb5⟩; have hb50 : Below W0.heap.size W0 w5 := below_d0 hb5; have q3b := kept2 hb50 q3 hgW0; have x0b := kept2 hb50 x0 hlw0; have x1b := kept2 hb50 x1 hlw0; have x2b := kept2 hb50 x2 hlw0; have x3b := kept2 hb50 x3 hlw0; have hgl5 : g < w5.heap.size := Nat.lt_of_lt_of_le hgW0 hb50.size; have hwl5 : w.heap.size < w5.heap.size := Nat.lt_of_lt_of_le hlw0 hb50.size)
      | (go_simp; go_at_call 83; (with_reducible refine (HDU.out _ hbx.drew).mono ?_); rintro e w5 ⟨rfl, hb5⟩; have hb50 : Below W0.heap.size W0 w5 := Below.trans hbx (below_d0 hb5 |>.mono hbx.size); have hlit := (hb5.block W0.heap.size (by simp)).trans (heap_alloc_new W0 (.cells #[.int .i64 f, .int .i64 t, .int .i64 d, .string s] 66)); have q3b := kept2 hb50 q3 hgW0; have x0b := kept2 hb50 x0 hlw0; have x1b := kept2 hb50 x1 hlw0; have x2b := kept2 hb50 x2 hlw0; have x3b := kept2 hb50 x3 hlw0; have hgl5 : g < w5.heap.size := Nat.lt_of_lt_of_le hgW0 hb50.size; have hwl5 : w.heap.size < w5.heap.size := Nat.lt_of_lt_of_le hlw0 hb50.size)
      | (go_simp; go_at_call 113; (with_reducible refine (HANY.out w5.heap.size (w5.alloc (.cells #[.int .i64 f, .int .i64 t, .int .i64 d, .string s] 66)) (HOA.out w5 hb50) (heap_alloc_new w5 _) (HNE.out w5 hb50) (HSZ.out w5 hb50) (HLT.out w5 hb50)).mono ?_); rintro e w6 ⟨v6, rfl, hrow6, hgr6, hat6⟩; have hf6 := HFIN.out w6 v6 hrow6 (HTA.out w5 w6 hb50 hgr6); obtain ⟨A2, c2, rfl, y3, u3, hpost⟩ := hf6)
      | (go_simp; go_at_call 113; (with_reducible refine (HANY.out W0.heap.size w5 (HOB.out w5 hb50) hlit (HNE.out W0 hbel) (HSB.out w5 hb50) (HLT.out W0 hbel)).mono ?_); rintro e w6 ⟨v6, rfl, hrow6, hgr6, hat6⟩; have hf6 := HFIN.out w6 v6 hrow6 (HTB.out w5 w6 hb50 hgr6); obtain ⟨A2, c2, rfl, y3, u3, hpost⟩ := hf6)
      | fail)
  all_goals
    have HPOST := Lib.hid hpost
    clear y3 u3 hpost hrow6 hgr6 hat6
    go_wp2
    go_end0
    exact HPOST.out
end Go.Proofs.Ytojplmjoipjabaa.Nt
