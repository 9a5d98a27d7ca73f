/-
  Contracts for the readers of one frame: the program's frameAt, which panics where there is no frame, and the model's l6Read.
-/
import Derived.Test.YtcjejbnogghkcaaDk1
import Derived.Deep.RegionHeld3
import Derived.Deep.RegionLaw
import Derived.WalkLawsBesides
namespace Go.Proofs.Ytcjejbnogghkcaa.Dk
open Go.RowKit C1
set_option linter.unusedVariables false
set_option linter.unusedSimpArgs false

/-- The panic of a reader that finds no frame. -/
def bad : List PanicEntry := [{ v := .iface 9 (.string ⟨#[110, 111, 32, 105, 110, 116, 97, 99, 116, 32, 102, 114, 97, 109, 101, 32, 115, 116, 97, 114, 116, 115, 32, 104, 101, 114, 101]⟩), recovered := false }]

theorem below_drewN {B : Nat} {w w1 : World} (h : Below B w w1) (n : Nat) : Below B w (w1.drewN n) := ⟨h.os, h.tape, h.output, h.size, h.block⟩
theorem cut_seal {b : ByteArray} {x n : Nat} (h : x + n + 3 ≤ b.size) : (b.extract x (x + n + 3)).size = n + 3 ∧ (b.extract x (x + n + 3)).data.toList.take n = (b.data.toList.drop x).take n ∧ (b.extract x (x + n + 3)).data.toList.drop n = (b.data.toList.drop (x + n)).take 3 := by
  refine ⟨by rw [ByteArray.size_extract]; omega, ?_, ?_⟩
  · rw [ext_list, show x + n + 3 - x = n + 3 by omega, List.take_take, Nat.min_eq_left (by omega)]
  · rw [ext_list, show x + n + 3 - x = n + 3 by omega, List.drop_take, List.drop_drop, show n + 3 - n = 3 by omega]
theorem cut_body {b : ByteArray} {x n : Nat} (h : x + n + 3 ≤ b.size) : (⟨((b.extract x (x + n + 3)).data.toList.take n).toArray⟩ : ByteArray) = b.extract x (x + n) := by
  apply ByteArray.ext
  apply Array.ext'
  rw [(cut_seal h).2.1, ext_list, show x + n - x = n by omega]

set_option maxRecDepth 100000 in
set_option maxHeartbeats 1000000 in
theorem frameAt_yes (b s : ByteArray) (q y : Nat) (w : World) (hb : b.size ≤ 1048576) (hq : q ≤ b.size) (h : fread b q = some (s, y)) :
    Calls Try.prog 53 #[.string b, .int .i64 (q : Int)] w fun e w' => e = .returned (.tuple #[.string s, .int .i64 (y : Int)]) ∧ Below w.heap.size w w' := by
  obtain ⟨n, x, hr, h1, h2, h3, rfl, rfl⟩ := fread_some h
  obtain ⟨b1, b2, b3⟩ := readNum_bounds hr hq
  have HN := Lib.hid (fun W => numAt_any b q W hb hq)
  rw [hr] at HN
  simp only at HN
  obtain ⟨c1, c2, c3⟩ := cut_seal h2
  have HO := Lib.hid (fun W => implOpen_yes (b.extract x (x + n + 3)) W n c1.symm (by omega) (by unfold OkSeal; rw [c2, c3]; exact h3))
  rw [cut_body h2] at HO
  have i1 : (n : Int) ≤ 700 := by omega
  have i2 : (x : Int) + (n : Int) + 3 ≤ (b.size : Int) := by omega
  have i3 : (n : Int) + 3 ≤ (b.size : Int) - (x : Int) := by omega
  clear h hr h3 c1 c2 c3
  go_enter Try.func53, Try.ntmps53
  go_wp2_with fail
  refine (HN.out _).mono ?_
  rintro e w1 ⟨rfl, rfl⟩
  go_wp2_with fail
  refine (HO.out _).mono ?_
  rintro e w2 ⟨rfl, hb2⟩
  go_wp2
  go_ret2
  exact ⟨rfl, hb2⟩

set_option maxRecDepth 100000 in
set_option maxHeartbeats 2000000 in
theorem frameAt_no (b : ByteArray) (q : Nat) (w : World) (hb : b.size ≤ 1048576) (hq : q ≤ b.size) (h : fread b q = none) :
    Calls Try.prog 53 #[.string b, .int .i64 (q : Int)] w fun e w' => e = .panicked bad ∧ Below w.heap.size w w' := by
  have HN := Lib.hid (fun W => numAt_any b q W hb hq)
  rcases hr : M.readNum b.data.toList q with ⟨n, x, ok⟩
  cases ok with
  | false =>
    rw [read_zero _ _ (by rw [hr])] at HN
    clear hr h
    go_enter Try.func53, Try.ntmps53
    go_wp2_with fail
    refine (HN.out _).mono ?_
    rintro e w1 ⟨rfl, rfl⟩
    go_wp2
    exact ⟨rfl, rfl, Below.refl _ _⟩
  | true =>
    rw [hr] at HN
    simp only at HN
    obtain ⟨b1, b2, b3⟩ := readNum_bounds hr hq
    by_cases h1 : n ≤ 700
    · by_cases h2 : x + n + 3 ≤ b.size
      · obtain ⟨c1, c2, c3⟩ := cut_seal h2
        have HO := Lib.hid (fun W => implOpen_no (b.extract x (x + n + 3)) W n c1.symm (by omega) (fun ho => by
          unfold OkSeal at ho
          rw [c2, c3] at ho
          rw [fread_yes hr h1 h2 ho] at h
          cases h))
        have i1 : (n : Int) ≤ 700 := by omega
        have i2 : (x : Int) + (n : Int) + 3 ≤ (b.size : Int) := by omega
        have i3 : (n : Int) + 3 ≤ (b.size : Int) - (x : Int) := by omega
        clear h hr c1 c2 c3
        go_enter Try.func53, Try.ntmps53
        go_wp2_with fail
        refine (HN.out _).mono ?_
        rintro e w1 ⟨rfl, rfl⟩
        go_wp2_with fail
        refine (HO.out _).mono ?_
        rintro e w2 ⟨rfl, hb2⟩
        go_wp2
        exact ⟨rfl, rfl, hb2⟩
      · have i1 : (n : Int) ≤ 700 := by omega
        have i3 : (b.size : Int) - (x : Int) < (n : Int) + 3 := by omega
        clear h hr h2
        go_enter Try.func53, Try.ntmps53
        go_wp2_with fail
        refine (HN.out _).mono ?_
        rintro e w1 ⟨rfl, rfl⟩
        go_wp2
        exact ⟨rfl, rfl, Below.refl _ _⟩
    · have i1 : (700 : Int) < (n : Int) := by omega
      clear h hr h1
      go_enter Try.func53, Try.ntmps53
      go_wp2_with fail
      refine (HN.out _).mono ?_
      rintro e w1 ⟨rfl, rfl⟩
      go_wp2
      exact ⟨rfl, rfl, Below.refl _ _⟩

/-- What the model compares: the frame of what was read, with the bytes read. -/
theorem frm_cut {b : ByteArray} {q n x : Nat} (hr : M.readNum b.data.toList q = (n, x, true)) (hq : q ≤ b.size) (h2 : x + n + 3 ≤ b.size) :
    ((frm (b.extract x (x + n))).toList == (b.extract q (x + n + 3)).toList) = true ↔ three (M.sumL ((b.data.toList.drop x).take n)) = (b.data.toList.drop (x + n)).take 3 := by
  obtain ⟨_, b2, b3⟩ := readNum_bounds hr hq
  have hc := read_canon (d := b.data.toList.drop q) hr
  have hsz : (b.extract x (x + n)).size = n := by rw [ByteArray.size_extract]; omega
  have hsl : (b.extract x (x + n)).data.toList = (b.data.toList.drop x).take n := by rw [ext_list, show x + n - x = n by omega]
  have hdx : (b.data.toList.drop x) = (b.data.toList.drop q).drop (x - q) := by rw [List.drop_drop]; congr 1; omega
  have hdn : (b.data.toList.drop (x + n)) = (b.data.toList.drop q).drop (x - q + n) := by rw [List.drop_drop]; congr 1; omega
  have hl : (b.extract q (x + n + 3)).data.toList = M.numB n ++ ((b.data.toList.drop x).take n ++ (b.data.toList.drop (x + n)).take 3) := by
    rw [ext_list, ← hc, ← List.append_assoc, hdx, hdn, take_take_drop, take_take_drop]
    congr 1
    omega
  rw [beq_iff_eq, ByteArray.toList_eq, ByteArray.toList_eq, frm_list, hl, hsz, hsl]
  unfold sealed
  constructor
  · intro e
    exact List.append_cancel_left (List.append_cancel_left e)
  · intro e
    rw [e]

/-- What the model's reader of one frame hands back: the frame and the place behind it, or -1. -/
def l6Ans (o : Option (ByteArray × Nat)) : Ending := match o with
  | some (s, y) => .returned (.tuple #[.string s, .int .i64 (y : Int)])
  | none => .returned (.tuple #[.string ⟨#[]⟩, .int .i64 (-1)])

set_option maxRecDepth 100000 in
set_option maxHeartbeats 4000000 in
theorem l6Read_any (b : ByteArray) (q : Nat) (w : World) (hb : b.size ≤ 1048576) (hq : q ≤ b.size) :
    Calls Try.prog 62 #[.string b, .int .i64 (q : Int)] w fun e w' => e = l6Ans (fread b q) ∧ Below w.heap.size w w' := by
  have HN := Lib.hid (rnum_any w.heap.size b q _ (rat_new w b q) hb hq)
  have hB0 := below1 w (.cells #[.string b, .int .i64 (q : Int), .bool false] 91)
  have HB0 := Lib.hid hB0
  rcases hr : M.readNum b.data.toList q with ⟨n, x, ok⟩
  have HR := Lib.hid hr
  clear hB0
  cases ok with
  | false =>
    have hz := M.read_false _ _ _ _ hr
    rw [fread_none (b := b) (q := q) (by rw [hr])]
    clear hr
    go_enter Try.func62, Try.ntmps62
    go_wp2_with fail
    refine HN.out.mono ?_
    rintro e w1 ⟨hG, hres⟩
    rw [HR.out] at hres
    rcases hres with ⟨hok, _, _⟩ | ⟨_, rfl, q', hR⟩
    · cases hok
    have d2 := hR.c2
    have HB1 := Lib.hid (HB0.out.trans (below_of_grown hG (Nat.le_refl _) HB0.out.size))
    clear hG hR
    go_wp2
    go_ret2
    exact ⟨rfl, HB1.out⟩
  | true =>
    obtain ⟨b1, b2, b3⟩ := readNum_bounds hr hq
    by_cases h1 : n ≤ 700
    · by_cases h2 : x + n + 3 ≤ b.size
      · have HC := Lib.hid (frm_cut hr hq h2)
        have HF := Lib.hid (fun W => l6Frame_any (b.extract x (x + n)) W (by rw [ByteArray.size_extract]; omega))
        obtain ⟨y, hy⟩ : ∃ y, y = x + n + 3 := ⟨_, rfl⟩
        have HY := Lib.hid hy
        rw [← hy] at HC h2
        have i1 : (n : Int) ≤ 700 := by omega
        have i2 : (x : Int) + (n : Int) ≤ (b.size : Int) := by omega
        have i3 : (n : Int) + 3 ≤ (b.size : Int) - (x : Int) := by omega
        have i4 : (x : Int) + (n : Int) + 3 = (y : Int) := by omega
        have i5 : (q : Int) ≤ (y : Int) := by omega
        have i6 : (y : Int) ≤ (b.size : Int) := by omega
        have i7 : (x : Int) ≤ (x : Int) + (n : Int) := by omega
        have I8 := Lib.hid (show x + n ≤ b.size by omega)
        cases ho : ((frm (b.extract x (x + n))).toList == (b.extract q y).toList) with
        | true =>
          have HA := Lib.hid (fread_yes hr h1 (by rw [← hy]; exact h2) (HC.out.1 ho))
          rw [← hy] at HA
          obtain ⟨f, hf⟩ : ∃ f, f = frm (b.extract x (x + n)) := ⟨_, rfl⟩
          rw [← hf] at HF ho
          clear hr hf hy HC b1
          go_enter Try.func62, Try.ntmps62
          go_wp2_with fail
          refine HN.out.mono ?_
          rintro e w1 ⟨hG, hres⟩
          rw [HR.out] at hres
          rcases hres with ⟨_, rfl, hR⟩ | ⟨hok, _, _⟩
          · have d1 := hR.c1
            have d2 := hR.c2
            have HB1 := Lib.hid (HB0.out.trans (below_of_grown hG (Nat.le_refl _) HB0.out.size))
            simp only at d1
            clear hG hR
            go_wp2_with fail
            go_quiet (fail)
            go_wp2_with fail
            go_region_law (go_simp; go_at_call 50; (with_reducible refine (HF.out _).mono ?_); rintro e w3 ⟨rfl, hb3⟩)
            have HB3 := Lib.hid ((below_drewN HB1.out _).trans (hb3.mono (below_drewN HB1.out _).size))
            clear hb3
            go_wp2
            go_ret2
            exact ⟨by rw [HA.out]; rfl, HB3.out⟩
          · cases hok
        | false =>
          have HA := Lib.hid (fread_no hr (fun h => by rw [HC.out.2 h.2.2] at ho; cases ho))
          obtain ⟨f, hf⟩ : ∃ f, f = frm (b.extract x (x + n)) := ⟨_, rfl⟩
          rw [← hf] at HF ho
          clear hr hf hy HC b1
          go_enter Try.func62, Try.ntmps62
          go_wp2_with fail
          refine HN.out.mono ?_
          rintro e w1 ⟨hG, hres⟩
          rw [HR.out] at hres
          rcases hres with ⟨_, rfl, hR⟩ | ⟨hok, _, _⟩
          · have d1 := hR.c1
            have d2 := hR.c2
            have HB1 := Lib.hid (HB0.out.trans (below_of_grown hG (Nat.le_refl _) HB0.out.size))
            simp only at d1
            clear hG hR
            go_wp2_with fail
            go_quiet (fail)
            go_wp2_with fail
            go_region_law (go_simp; go_at_call 50; (with_reducible refine (HF.out _).mono ?_); rintro e w3 ⟨rfl, hb3⟩)
            have HB3 := Lib.hid ((below_drewN HB1.out _).trans (hb3.mono (below_drewN HB1.out _).size))
            clear hb3
            go_wp2
            go_ret2
            exact ⟨by rw [HA.out]; rfl, HB3.out⟩
          · cases hok
      · rw [fread_no hr (fun h => h2 h.2.1)]
        have i1 : (n : Int) ≤ 700 := by omega
        have i3 : (b.size : Int) - (x : Int) < (n : Int) + 3 := by omega
        clear hr h2
        go_enter Try.func62, Try.ntmps62
        go_wp2_with fail
        refine HN.out.mono ?_
        rintro e w1 ⟨hG, hres⟩
        rw [HR.out] at hres
        rcases hres with ⟨_, rfl, hR⟩ | ⟨hok, _, _⟩
        · have d1 := hR.c1
          have d2 := hR.c2
          have HB1 := Lib.hid (HB0.out.trans (below_of_grown hG (Nat.le_refl _) HB0.out.size))
          clear hG hR
          go_wp2
          go_ret2
          exact ⟨rfl, HB1.out⟩
        · cases hok
    · rw [fread_no hr (fun h => h1 h.1)]
      have i1 : (700 : Int) < (n : Int) := by omega
      clear hr h1
      go_enter Try.func62, Try.ntmps62
      go_wp2_with fail
      refine HN.out.mono ?_
      rintro e w1 ⟨hG, hres⟩
      rw [HR.out] at hres
      rcases hres with ⟨_, rfl, hR⟩ | ⟨hok, _, _⟩
      · have d1 := hR.c1
        have d2 := hR.c2
        have HB1 := Lib.hid (HB0.out.trans (below_of_grown hG (Nat.le_refl _) HB0.out.size))
        clear hG hR
        go_wp2
        go_ret2
        exact ⟨rfl, HB1.out⟩
      · cases hok
end Go.Proofs.Ytcjejbnogghkcaa.Dk
