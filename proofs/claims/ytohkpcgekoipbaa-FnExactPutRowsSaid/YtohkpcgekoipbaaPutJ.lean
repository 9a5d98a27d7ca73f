/-
  The program's rows: setWrite, and slices.DeleteFunc over isGone, on a row of the call's own.
-/
import Derived.Test.YtohkpcgekoipbaaPutI
namespace Go.Proofs.Ytohkpcgekoipbaa
open Go Go.RowKit CM
set_option linter.unusedVariables false

theorem flat_take {L : List (List Value)} {sz : Nat} (hL : ∀ x ∈ L, x.length = sz) (i : Nat) : L.flatten.take (i * sz) = (L.take i).flatten := by
  induction L generalizing i with
  | nil => simp
  | cons a l ih =>
    cases i with
    | zero => simp
    | succ i =>
      have ha := hL a (by simp)
      have := ih (fun x hx => hL x (List.mem_cons_of_mem _ hx)) i
      rw [List.flatten_cons, List.take_append, List.take_of_length_le (by rw [ha, Nat.add_mul]; omega), ha, show (i + 1) * sz - sz = i * sz by rw [Nat.add_mul]; omega, this, List.take_succ_cons, List.flatten_cons]
theorem flat_drop {L : List (List Value)} {sz : Nat} (hL : ∀ x ∈ L, x.length = sz) (i : Nat) : L.flatten.drop (i * sz) = (L.drop i).flatten := by
  induction L generalizing i with
  | nil => simp
  | cons a l ih =>
    cases i with
    | zero => simp
    | succ i =>
      have ha := hL a (by simp)
      have := ih (fun x hx => hL x (List.mem_cons_of_mem _ hx)) i
      rw [List.flatten_cons, List.drop_append, List.drop_of_length_le (by rw [ha, Nat.add_mul]; omega), ha, show (i + 1) * sz - sz = i * sz by rw [Nat.add_mul]; omega, this, List.drop_succ_cons, List.nil_append]
theorem put_flat (ws : List (ByteArray × ByteArray × Bool)) (y : (ByteArray × ByteArray × Bool)) (i : Nat) : ((ws.map wrCs).flatten).take (i * 3) ++ wrCs y ++ ((ws.map wrCs).flatten).drop (i * 3) = ((ws.take i ++ y :: ws.drop i).map wrCs).flatten := by
  rw [flat_take (wrCs_len ws), flat_drop (wrCs_len ws), List.map_append, List.map_cons, List.flatten_append, List.flatten_cons, List.map_take, List.map_drop, List.append_assoc]
theorem Own.put3 {w : World} {lo hi g cap : Nat} {t : TypeId} {L : List (List Value)} (h : Own w lo hi t 3 (some ⟨g, 0, none⟩) cap L) (j : Nat) (hj : j < L.length) (hl : L[j].length = 3) (a b d : Value) :
    Own (((w.setCell ⟨g, j * 3, none⟩ a).setCell ⟨g, j * 3 + 1, none⟩ b).setCell ⟨g, j * 3 + 2, none⟩ d) lo hi t 3 (some ⟨g, 0, none⟩) cap (L.set j [a, b, d]) := by
  have h1 := h.put j 0 hj (by omega) hl a
  have h2 := h1.put j 1 (by simpa using hj) (by omega) (by simpa using hl) b
  have h3 := h2.put j 2 (by simpa using hj) (by omega) (by simpa using hl) d
  have e : ((L.set j (L[j].set 0 a)).set j (((L.set j (L[j].set 0 a))[j]'(by simpa using hj)).set 1 b)).set j ((((L.set j (L[j].set 0 a)).set j (((L.set j (L[j].set 0 a))[j]'(by simpa using hj)).set 1 b))[j]'(by simpa using hj)).set 2 d) = L.set j [a, b, d] := by
    simp only [List.set_set, List.getElem_set_self]
    congr 1
    match L[j], hl with
    | [p, q, r], _ => rfl
  rw [e] at h3
  exact h3
theorem Own.freeC {w : World} {lo hi g cap sz : Nat} {t : TypeId} {L : List (List Value)} (h : Own w lo hi t sz (some ⟨g, 0, none⟩) cap L) (m : Nat) : w.frozen? ⟨g, m, none⟩ = false := by
  rcases h with ⟨_, h, _⟩ | ⟨g', cur, hA, _, _, h3, _⟩
  · cases h
  · injection hA with hA
    injection hA with hg
    subst hg
    exact free_blk h3 m
theorem Own.cellAt {w : World} {lo hi g cap sz : Nat} {t : TypeId} {L : List (List Value)} (h : Own w lo hi t sz (some ⟨g, 0, none⟩) cap L) (j i : Nat) (hj : j < L.length) (hi' : i < sz) : w.cell? ⟨g, j * sz + i, none⟩ = L[j][i]? := by
  rcases h with ⟨h, _⟩ | ⟨g', cur, hA, _, _, h3, _, _, _, h7⟩
  · subst h; simp at hj
  · injection hA with hA
    injection hA with hg
    subst hg
    rw [cell_of_row w g _ cur t (0, 0) h3]
    exact h7 j hj i hi'
/-- What setWrite hands back. -/
def SetPost (lo : Nat) (ws : List (ByteArray × ByteArray × Bool)) (x : (ByteArray × ByteArray × Bool)) (w : World) (e : Ending) (w' : World) : Prop :=
  ∃ v', e = .returned v' ∧ w'.ownsRow lo 74 3 v' (putW ws x).length (((putW ws x).map wrCs).flatten) ∧ Below lo w w'

set_option maxRecDepth 100000 in
set_option maxHeartbeats 1000000 in
theorem setWrite_any (A : Option Addr) (n c : Nat) (ws : List (ByteArray × ByteArray × Bool)) (k v : ByteArray) (g : Bool) (lo : Nat) (w : World) (hn : ws.length = n) (h : w.ownsRow lo 74 3 (.slice A n c) n (ws.map wrCs).flatten) (hlo : lo ≤ w.heap.size) (hl : n ≤ 100000) (hup : upB wLt ws = true) :
    Calls Try.prog 49 #[.slice A n c, .agg #[.string k, .string v, .bool g]] w (SetPost lo ws (k, v, g) w) := by
  have how : Own w lo w.heap.size 74 3 A c (ws.map wrCs) := by
    obtain ⟨A', c', hv, _, ho⟩ := Own.ofRow h (wrCs_len _) (by decide) (hi := w.heap.size) (fun k hk => (h.lt k hk).2)
    injection hv with h1 _ h3
    subst h1 h3
    exact ho
  have HF := Lib.hid (fun W (hW : Below w.heap.size w W) => findWrite_any A n c ws k w.heap.size W hn (how.row.below hW) hW.size (by omega) hup)
  have hw1 := below1 w (.cells #[.string k, .string v, .bool g] 74)
  have hbx := heap_alloc_new w (.cells #[.string k, .string v, .bool g] 74)
  have HW1 := Lib.hid hw1
  have hltx : w.heap.size < (w.alloc (.cells #[.string k, .string v, .bool g] 74)).heap.size := by simp
  have x0 := cell_blk (i := 0) hbx rfl
  have x1 := cell_blk (i := 1) hbx rfl
  have x2 := cell_blk (i := 2) hbx rfl
  have HX := Lib.hid (show (w.alloc (.cells #[.string k, .string v, .bool g] 74)).cell? ⟨w.heap.size, 0, none⟩ = some (.string k) ∧ (w.alloc (.cells #[.string k, .string v, .bool g] 74)).cell? ⟨w.heap.size, 1, none⟩ = some (.string v) ∧ (w.alloc (.cells #[.string k, .string v, .bool g] 74)).cell? ⟨w.heap.size, 2, none⟩ = some (.bool g) from ⟨x0, x1, x2⟩)
  have H := Lib.hid h
  have HOW := Lib.hid how
  have HN := Lib.hid hn
  clear h how hw1 hbx x0 x1 x2 hn
  go_enter Try.func49, Try.ntmps49
  go_wp2_with fail
  refine (HF.out _ HW1.out).mono ?_
  rintro e w2 ⟨i, f, rfl, hf, hb2⟩
  have hbw : Below w.heap.size w w2 := HW1.out.trans (hb2.mono HW1.out.size)
  have c0 := (hb2.cell (p := ⟨w.heap.size, 0, none⟩) hltx).trans HX.out.1
  have c1 := (hb2.cell (p := ⟨w.heap.size, 1, none⟩) hltx).trans HX.out.2.1
  have c2 := (hb2.cell (p := ⟨w.heap.size, 2, none⟩) hltx).trans HX.out.2.2
  have hfu := find_unique (l := ws) (key := k) (i := i) (f := f) (by rw [← List.length_map (f := Prod.fst)]; exact hf) (k, v, g) rfl
  have hil : i ≤ n := by have := hf.1; rw [List.length_map, HN.out] at this; exact this
  have HB2 := Lib.hid hbw
  have hsz2 : w.heap.size < w2.heap.size := Nat.lt_of_lt_of_le hltx hb2.size
  clear hb2 hf hbw
  cases f with
  | false =>
    have HP := Lib.hid (hfu.2 rfl)
    have hnw := heap_alloc_new w2 (.cells #[.string k, .string v, .bool g] 74)
    have hbw3 := HB2.out.trans ((below1 w2 (.cells #[.string k, .string v, .bool g] 74)).mono HB2.out.size)
    have HI := Lib.hid (insW_any A n c i _ lo w2.heap.size (wrCs (k, v, g)) (w2.alloc (.cells #[.string k, .string v, .bool g] 74)) (row_below H.out hbw3) hil hnw rfl (by simp [wrCs, Value.oneCell']) (wrCs_one ws) (fun a ha e => by have := (HOW.out.block a ha).2.1; omega) (Nat.le_trans hlo hbw3.size) (by omega))
    have HB3 := Lib.hid hbw3
    clear hfu hnw hbw3
    go_wp2_with fail
    refine HI.out.mono ?_
    rintro e w4 ⟨v', rfl, hown, hgr, _⟩
    have HFIN := Lib.hid (show SetPost lo ws (k, v, g) w (.returned v') w4 from ⟨v', rfl, by
      rw [put_flat, ← HP.out] at hown
      have hlen : (putW ws (k, v, g)).length = n + 1 := by
        rw [HP.out, List.length_append, List.length_cons, List.length_take, List.length_drop, HN.out]; omega
      rw [hlen]
      exact hown, (HB3.out.mono hlo).grown hgr (Nat.le_trans hlo HB3.out.size) (fun k' hk' => (H.out.lt k' hk').1)⟩)
    clear hown hgr
    go_wp2
    go_ret
    exact HFIN.out
  | true =>
    obtain ⟨hin, _, hput⟩ := hfu.1 rfl
    have HP := Lib.hid hput
    rw [HN.out] at hin
    have hoc := HOW.out.below HB2.out
    obtain ⟨g0, cur0, rfl, hg1, hg2, hh0, hlc, hcs⟩ := hoc.form (by rw [List.length_map, HN.out]; omega)
    have hjl : i < (ws.map wrCs).length := by rw [List.length_map, HN.out]; exact hin
    have d0 := hoc.cellAt i 0 hjl (by omega)
    have d1 := hoc.cellAt i 1 hjl (by omega)
    have d2 := hoc.cellAt i 2 hjl (by omega)
    rw [List.getElem_map] at d0 d1 d2
    obtain ⟨y, hy⟩ : ∃ y, y = ws[i]'(by rw [HN.out]; exact hin) := ⟨_, rfl⟩
    rw [← hy] at d0 d1 d2
    obtain ⟨y0, y1, y2⟩ := y
    simp only [wrCs, Nat.add_zero, List.getElem?_cons_zero, List.getElem?_cons_succ] at d0 d1 d2
    have f0 := hoc.freeC (i * 3)
    have f1 := hoc.freeC (i * 3 + 1)
    have f2 := hoc.freeC (i * 3 + 2)
    have hp3 := hoc.put3 i hjl (by rw [List.getElem_map]; rfl) (.string k) (.string v) (.bool g)
    have hne : w.heap.size ≠ g0 := by omega
    have e2 : (ws.map wrCs).set i [.string k, .string v, .bool g] = (ws.set i (k, v, g)).map wrCs := by rw [List.map_set]; rfl
    rw [e2] at hp3
    have HFIN := Lib.hid (show SetPost lo ws (k, v, g) w (.returned (.slice (some ⟨g0, 0, none⟩) n c)) (((w2.setCell ⟨g0, i * 3, none⟩ (.string k)).setCell ⟨g0, i * 3 + 1, none⟩ (.string v)).setCell ⟨g0, i * 3 + 2, none⟩ (.bool g)) from ⟨_, rfl, by
      have := hp3.toRow (wrCs_len _) (by decide)
      rw [List.length_map] at this
      rw [HP.out]
      rw [List.length_set, HN.out] at this ⊢
      exact this, (((HB2.out.mono hlo).setCell (p := ⟨g0, i * 3, none⟩) hg1 _).setCell (p := ⟨g0, i * 3 + 1, none⟩) hg1 _).setCell (p := ⟨g0, i * 3 + 2, none⟩) hg1 _⟩)
    have hi0 : (0 : Int) ≤ (i : Int) := by omega
    have hi1 : (i : Int) < (n : Int) := by omega
    clear hfu hput hp3 hoc hh0 hlc hcs e2 hy hjl
    go_wp2
    go_ret
    exact HFIN.out
end Go.Proofs.Ytohkpcgekoipbaa
