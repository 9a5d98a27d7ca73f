/-
  NewHouse of program and model.
-/
import Derived.Test.YtkhndofplebcaaaHsH
import Derived.Test.YtkhndofplebcaaaGrNew
namespace Go.Proofs.Ytkhndofplebcaaa.Hs
open Go.RowKit CM Gr
set_option linter.unusedVariables false
set_option linter.unusedSimpArgs false

def newHA (many : Int) : HA := if many = 3 ∨ many = 5 then (List.replicate many.toNat rd0, 0, -1, List.replicate many.toNat (⟨#[]⟩, ⟨#[]⟩), true) else noHA
theorem newHA_no {many : Int} (h3 : ¬ many = 3) (h5 : ¬ many = 5) : newHA many = noHA := by unfold newHA; rw [if_neg (by simp [h3, h5])]
theorem made_3 (W : World) : (Instr.makeSlice 46 (.int .i64 3) (.int .i64 3)).run Try.prog W = .ok (.slice (some ⟨W.heap.size, 0, none⟩) 3 3) (W.alloc (.cells #[.string ⟨#[]⟩, .string ⟨#[]⟩, .string ⟨#[]⟩, .string ⟨#[]⟩, .string ⟨#[]⟩, .string ⟨#[]⟩] 135)) := by
  obtain ⟨i0, hi, hz0, hz1, hz2⟩ := info_parts infoDk
  have hr := run_make (P := Try.prog) (w := W) 46 135 i0 _ Try.underlying46 hi hz0 .i64 .i64 (3 : Int) (3 : Int) (by omega) (by omega) (by rw [hz2]; decide) (by omega)
  simp only [hz1] at hr
  have e : madeCells (Value.agg #[.string ⟨#[]⟩, .string ⟨#[]⟩]).cells (Int.toNat 3 * 2) = #[.string ⟨#[]⟩, .string ⟨#[]⟩, .string ⟨#[]⟩, .string ⟨#[]⟩, .string ⟨#[]⟩, .string ⟨#[]⟩] := by kernel_rfl
  rw [e] at hr
  exact hr
theorem own_3 {w : World} {g lo hi : Nat} (h : w.heap[g]? = some (.cells #[.string ⟨#[]⟩, .string ⟨#[]⟩, .string ⟨#[]⟩, .string ⟨#[]⟩, .string ⟨#[]⟩, .string ⟨#[]⟩] 135 (0, 0))) (h1 : lo ≤ g) (h2 : g < hi) : OwnD w lo hi (some ⟨g, 0, none⟩) 3 (List.replicate 3 (⟨#[]⟩, ⟨#[]⟩)) := by
  refine .inr ⟨g, _, rfl, h1, h2, h, by simp, by unfold maxLen; omega, by simp, fun j hj i hi => ?_⟩
  have hj' : j < 3 := by simpa using hj
  have hi' : i = 0 ∨ i = 1 := by omega
  have : j = 0 ∨ j = 1 ∨ j = 2 := by omega
  rcases this with rfl | rfl | rfl <;> rcases hi' with rfl | rfl <;> rfl
theorem made_5 (W : World) : (Instr.makeSlice 46 (.int .i64 5) (.int .i64 5)).run Try.prog W = .ok (.slice (some ⟨W.heap.size, 0, none⟩) 5 5) (W.alloc (.cells #[.string ⟨#[]⟩, .string ⟨#[]⟩, .string ⟨#[]⟩, .string ⟨#[]⟩, .string ⟨#[]⟩, .string ⟨#[]⟩, .string ⟨#[]⟩, .string ⟨#[]⟩, .string ⟨#[]⟩, .string ⟨#[]⟩] 135)) := by
  obtain ⟨i0, hi, hz0, hz1, hz2⟩ := info_parts infoDk
  have hr := run_make (P := Try.prog) (w := W) 46 135 i0 _ Try.underlying46 hi hz0 .i64 .i64 (5 : Int) (5 : Int) (by omega) (by omega) (by rw [hz2]; decide) (by omega)
  simp only [hz1] at hr
  have e : madeCells (Value.agg #[.string ⟨#[]⟩, .string ⟨#[]⟩]).cells (Int.toNat 5 * 2) = #[.string ⟨#[]⟩, .string ⟨#[]⟩, .string ⟨#[]⟩, .string ⟨#[]⟩, .string ⟨#[]⟩, .string ⟨#[]⟩, .string ⟨#[]⟩, .string ⟨#[]⟩, .string ⟨#[]⟩, .string ⟨#[]⟩] := by kernel_rfl
  rw [e] at hr
  exact hr
theorem own_5 {w : World} {g lo hi : Nat} (h : w.heap[g]? = some (.cells #[.string ⟨#[]⟩, .string ⟨#[]⟩, .string ⟨#[]⟩, .string ⟨#[]⟩, .string ⟨#[]⟩, .string ⟨#[]⟩, .string ⟨#[]⟩, .string ⟨#[]⟩, .string ⟨#[]⟩, .string ⟨#[]⟩] 135 (0, 0))) (h1 : lo ≤ g) (h2 : g < hi) : OwnD w lo hi (some ⟨g, 0, none⟩) 5 (List.replicate 5 (⟨#[]⟩, ⟨#[]⟩)) := by
  refine .inr ⟨g, _, rfl, h1, h2, h, by simp, by unfold maxLen; omega, by simp, fun j hj i hi => ?_⟩
  have hj' : j < 5 := by simpa using hj
  have hi' : i = 0 ∨ i = 1 := by omega
  have : j = 0 ∨ j = 1 ∨ j = 2 ∨ j = 3 ∨ j = 4 := by omega
  rcases this with rfl | rfl | rfl | rfl | rfl <;> rcases hi' with rfl | rfl <;> rfl

set_option maxRecDepth 100000 in
set_option maxHeartbeats 4000000 in
theorem specNewH3 (w : World) : Calls Try.prog 18 #[.int .i64 3] w (HAPost (newHA 3) w) := by
  have HC := Lib.hid (fun W => specNewGroup_any 3 W)
  have e1 : newGA 3 = (List.replicate 3 rd0, 0, -1, true) := by unfold newGA; simp
  have e2 : newHA 3 = (List.replicate 3 rd0, 0, -1, List.replicate 3 (⟨#[]⟩, ⟨#[]⟩), true) := by unfold newHA; simp
  rw [e1] at HC
  rw [e2, HAPost_un]
  unfold GAPost at HC
  simp only [List.length_replicate] at HC ⊢
  have hmk := made_3
  have HB0 := Lib.hid (below1 w (.cells #[.slice none 0 0, .int .i64 0, .int .i64 0, .slice none 0 0] 48))
  have KZ := Lib.hid (heap_alloc_new w (.cells #[.slice none 0 0, .int .i64 0, .int .i64 0, .slice none 0 0] 48))
  clear e1 e2
  go_enter Try.func18, Try.ntmps18
  go_wp2_with fail
  (with_reducible refine (HC.out _).mono ?_)
  rintro e w1 ⟨A1, c1, gs, rfl, hd1, ho1, ha1⟩
  have kz1 := (ha1.block w.heap.size (lt_blk KZ.out)).trans KZ.out
  have z0 := cell_blk (i := 0) kz1 rfl
  have z1 := cell_blk (i := 1) kz1 rfl
  have z2 := cell_blk (i := 2) kz1 rfl
  have z3 := cell_blk (i := 3) kz1 rfl
  have fz := free_all kz1
  have zl := lt_blk kz1
  have HB1 := Lib.hid (HB0.out.trans (ha1.mono HB0.out.size))
  have HO1 := Lib.hid ho1
  have HD1 := Lib.hid hd1
  have hzz := HB0.out.size
  have HA1 := Lib.hid ha1.size
  clear kz1 ho1 hd1 ha1
  go_wp2_with fail
  go_region
  have hws := putN_size w1 w.heap.size 0 [.slice A1 3 c1, .int .i64 0, .int .i64 (-1), .slice (some ⟨w1.heap.size + 1, 0, none⟩) 3 3]
  have hk := HO1.out.keep (keep_putN (w := w1) (g := w.heap.size) (.inl (by simp)) 0 [.slice A1 3 c1, .int .i64 0, .int .i64 (-1), .slice (some ⟨w1.heap.size + 1, 0, none⟩) 3 3])
  have hbp := below_putN (g := w.heap.size) HB1.out (Nat.le_refl _) 0 [.slice A1 3 c1, .int .i64 0, .int .i64 (-1), .slice (some ⟨w1.heap.size + 1, 0, none⟩) 3 3]
  obtain ⟨WS, hWS⟩ : ∃ WS, WS = putN w1 w.heap.size 0 [.slice A1 3 c1, .int .i64 0, .int .i64 (-1), .slice (some ⟨w1.heap.size + 1, 0, none⟩) 3 3] := ⟨_, rfl⟩
  have hb2 := (below2 WS (.cells #[.slice A1 3 c1, .int .i64 0, .int .i64 (-1)] 45) (.cells #[.string ⟨#[]⟩, .string ⟨#[]⟩, .string ⟨#[]⟩, .string ⟨#[]⟩, .string ⟨#[]⟩, .string ⟨#[]⟩] 135)).drew
  have hkd := alloc2_b WS (.cells #[.slice A1 3 c1, .int .i64 0, .int .i64 (-1)] 45) (.cells #[.string ⟨#[]⟩, .string ⟨#[]⟩, .string ⟨#[]⟩, .string ⟨#[]⟩, .string ⟨#[]⟩, .string ⟨#[]⟩] 135)
  rw [← hWS] at hws hk hbp
  rw [hws] at hkd
  have hsz2 : ((WS.alloc (.cells #[.slice A1 3 c1, .int .i64 0, .int .i64 (-1)] 45)).alloc (.cells #[.string ⟨#[]⟩, .string ⟨#[]⟩, .string ⟨#[]⟩, .string ⟨#[]⟩, .string ⟨#[]⟩, .string ⟨#[]⟩] 135)).drew.heap.size = w1.heap.size + 2 := by
    show ((WS.alloc _).alloc _).heap.size = _
    rw [World.size_alloc, World.size_alloc, hws]
  have hof : OwnH ((WS.alloc (.cells #[.slice A1 3 c1, .int .i64 0, .int .i64 (-1)] 45)).alloc (.cells #[.string ⟨#[]⟩, .string ⟨#[]⟩, .string ⟨#[]⟩, .string ⟨#[]⟩, .string ⟨#[]⟩, .string ⟨#[]⟩] 135)).drew w.heap.size ((WS.alloc (.cells #[.slice A1 3 c1, .int .i64 0, .int .i64 (-1)] 45)).alloc (.cells #[.string ⟨#[]⟩, .string ⟨#[]⟩, .string ⟨#[]⟩, .string ⟨#[]⟩, .string ⟨#[]⟩, .string ⟨#[]⟩] 135)).drew.heap.size A1 c1 gs (some ⟨w1.heap.size + 1, 0, none⟩) 3 (List.replicate 3 (⟨#[]⟩, ⟨#[]⟩)) :=
    ⟨_, w1.heap.size, w1.heap.size + 1, w1.heap.size + 2, hzz, HA1.out, by omega, by omega, by omega, by omega, .inl (by omega), hk.since hb2, own_3 hkd (by omega) (by omega)⟩
  have HOF := Lib.hid hof
  have HBF := Lib.hid (hbp.trans (hb2.mono hbp.size))
  subst hWS
  clear hws hk hbp hb2 hkd hsz2 hof
  go_wp2
  exact bodyPost_ret (v := .tuple #[.agg #[.slice A1 3 c1, .int .i64 0, .int .i64 (-1), .slice (some ⟨w1.heap.size + 1, 0, none⟩) 3 3], .bool true]) (by simp [results, Try.results18, go_sem, *]) rfl ⟨A1, c1, gs, _, 3, rfl, HD1.out, HOF.out, HBF.out⟩


set_option maxRecDepth 100000 in
set_option maxHeartbeats 4000000 in
theorem specNewH5 (w : World) : Calls Try.prog 18 #[.int .i64 5] w (HAPost (newHA 5) w) := by
  have HC := Lib.hid (fun W => specNewGroup_any 5 W)
  have e1 : newGA 5 = (List.replicate 5 rd0, 0, -1, true) := by unfold newGA; simp
  have e2 : newHA 5 = (List.replicate 5 rd0, 0, -1, List.replicate 5 (⟨#[]⟩, ⟨#[]⟩), true) := by unfold newHA; simp
  rw [e1] at HC
  rw [e2, HAPost_un]
  unfold GAPost at HC
  simp only [List.length_replicate] at HC ⊢
  have hmk := made_5
  have HB0 := Lib.hid (below1 w (.cells #[.slice none 0 0, .int .i64 0, .int .i64 0, .slice none 0 0] 48))
  have KZ := Lib.hid (heap_alloc_new w (.cells #[.slice none 0 0, .int .i64 0, .int .i64 0, .slice none 0 0] 48))
  clear e1 e2
  go_enter Try.func18, Try.ntmps18
  go_wp2_with fail
  (with_reducible refine (HC.out _).mono ?_)
  rintro e w1 ⟨A1, c1, gs, rfl, hd1, ho1, ha1⟩
  have kz1 := (ha1.block w.heap.size (lt_blk KZ.out)).trans KZ.out
  have z0 := cell_blk (i := 0) kz1 rfl
  have z1 := cell_blk (i := 1) kz1 rfl
  have z2 := cell_blk (i := 2) kz1 rfl
  have z3 := cell_blk (i := 3) kz1 rfl
  have fz := free_all kz1
  have zl := lt_blk kz1
  have HB1 := Lib.hid (HB0.out.trans (ha1.mono HB0.out.size))
  have HO1 := Lib.hid ho1
  have HD1 := Lib.hid hd1
  have hzz := HB0.out.size
  have HA1 := Lib.hid ha1.size
  clear kz1 ho1 hd1 ha1
  go_wp2_with fail
  go_region
  have hws := putN_size w1 w.heap.size 0 [.slice A1 5 c1, .int .i64 0, .int .i64 (-1), .slice (some ⟨w1.heap.size + 1, 0, none⟩) 5 5]
  have hk := HO1.out.keep (keep_putN (w := w1) (g := w.heap.size) (.inl (by simp)) 0 [.slice A1 5 c1, .int .i64 0, .int .i64 (-1), .slice (some ⟨w1.heap.size + 1, 0, none⟩) 5 5])
  have hbp := below_putN (g := w.heap.size) HB1.out (Nat.le_refl _) 0 [.slice A1 5 c1, .int .i64 0, .int .i64 (-1), .slice (some ⟨w1.heap.size + 1, 0, none⟩) 5 5]
  obtain ⟨WS, hWS⟩ : ∃ WS, WS = putN w1 w.heap.size 0 [.slice A1 5 c1, .int .i64 0, .int .i64 (-1), .slice (some ⟨w1.heap.size + 1, 0, none⟩) 5 5] := ⟨_, rfl⟩
  have hb2 := (below2 WS (.cells #[.slice A1 5 c1, .int .i64 0, .int .i64 (-1)] 45) (.cells #[.string ⟨#[]⟩, .string ⟨#[]⟩, .string ⟨#[]⟩, .string ⟨#[]⟩, .string ⟨#[]⟩, .string ⟨#[]⟩, .string ⟨#[]⟩, .string ⟨#[]⟩, .string ⟨#[]⟩, .string ⟨#[]⟩] 135)).drew
  have hkd := alloc2_b WS (.cells #[.slice A1 5 c1, .int .i64 0, .int .i64 (-1)] 45) (.cells #[.string ⟨#[]⟩, .string ⟨#[]⟩, .string ⟨#[]⟩, .string ⟨#[]⟩, .string ⟨#[]⟩, .string ⟨#[]⟩, .string ⟨#[]⟩, .string ⟨#[]⟩, .string ⟨#[]⟩, .string ⟨#[]⟩] 135)
  rw [← hWS] at hws hk hbp
  rw [hws] at hkd
  have hsz2 : ((WS.alloc (.cells #[.slice A1 5 c1, .int .i64 0, .int .i64 (-1)] 45)).alloc (.cells #[.string ⟨#[]⟩, .string ⟨#[]⟩, .string ⟨#[]⟩, .string ⟨#[]⟩, .string ⟨#[]⟩, .string ⟨#[]⟩, .string ⟨#[]⟩, .string ⟨#[]⟩, .string ⟨#[]⟩, .string ⟨#[]⟩] 135)).drew.heap.size = w1.heap.size + 2 := by
    show ((WS.alloc _).alloc _).heap.size = _
    rw [World.size_alloc, World.size_alloc, hws]
  have hof : OwnH ((WS.alloc (.cells #[.slice A1 5 c1, .int .i64 0, .int .i64 (-1)] 45)).alloc (.cells #[.string ⟨#[]⟩, .string ⟨#[]⟩, .string ⟨#[]⟩, .string ⟨#[]⟩, .string ⟨#[]⟩, .string ⟨#[]⟩, .string ⟨#[]⟩, .string ⟨#[]⟩, .string ⟨#[]⟩, .string ⟨#[]⟩] 135)).drew w.heap.size ((WS.alloc (.cells #[.slice A1 5 c1, .int .i64 0, .int .i64 (-1)] 45)).alloc (.cells #[.string ⟨#[]⟩, .string ⟨#[]⟩, .string ⟨#[]⟩, .string ⟨#[]⟩, .string ⟨#[]⟩, .string ⟨#[]⟩, .string ⟨#[]⟩, .string ⟨#[]⟩, .string ⟨#[]⟩, .string ⟨#[]⟩] 135)).drew.heap.size A1 c1 gs (some ⟨w1.heap.size + 1, 0, none⟩) 5 (List.replicate 5 (⟨#[]⟩, ⟨#[]⟩)) :=
    ⟨_, w1.heap.size, w1.heap.size + 1, w1.heap.size + 2, hzz, HA1.out, by omega, by omega, by omega, by omega, .inl (by omega), hk.since hb2, own_5 hkd (by omega) (by omega)⟩
  have HOF := Lib.hid hof
  have HBF := Lib.hid (hbp.trans (hb2.mono hbp.size))
  subst hWS
  clear hws hk hbp hb2 hkd hsz2 hof
  go_wp2
  exact bodyPost_ret (v := .tuple #[.agg #[.slice A1 5 c1, .int .i64 0, .int .i64 (-1), .slice (some ⟨w1.heap.size + 1, 0, none⟩) 5 5], .bool true]) (by simp [results, Try.results18, go_sem, *]) rfl ⟨A1, c1, gs, _, 5, rfl, HD1.out, HOF.out, HBF.out⟩


set_option maxRecDepth 100000 in
set_option maxHeartbeats 4000000 in
theorem implNewH3 (w : World) : Calls Try.prog 19 #[.int .i64 3] w (HAPost (newHA 3) w) := by
  have HC := Lib.hid (fun W => implNewGroup_any 3 W)
  have e1 : newGA 3 = (List.replicate 3 rd0, 0, -1, true) := by unfold newGA; simp
  have e2 : newHA 3 = (List.replicate 3 rd0, 0, -1, List.replicate 3 (⟨#[]⟩, ⟨#[]⟩), true) := by unfold newHA; simp
  rw [e1] at HC
  rw [e2, HAPost_un]
  unfold GAPost at HC
  simp only [List.length_replicate] at HC ⊢
  have hmk := made_3
  have HB0 := Lib.hid (below1 w (.cells #[.slice none 0 0, .int .i64 0, .int .i64 0, .slice none 0 0] 48))
  have KZ := Lib.hid (heap_alloc_new w (.cells #[.slice none 0 0, .int .i64 0, .int .i64 0, .slice none 0 0] 48))
  clear e1 e2
  go_enter Try.func19, Try.ntmps19
  go_wp2_with fail
  (with_reducible refine (HC.out _).mono ?_)
  rintro e w1 ⟨A1, c1, gs, rfl, hd1, ho1, ha1⟩
  have kz1 := (ha1.block w.heap.size (lt_blk KZ.out)).trans KZ.out
  have z0 := cell_blk (i := 0) kz1 rfl
  have z1 := cell_blk (i := 1) kz1 rfl
  have z2 := cell_blk (i := 2) kz1 rfl
  have z3 := cell_blk (i := 3) kz1 rfl
  have fz := free_all kz1
  have zl := lt_blk kz1
  have HB1 := Lib.hid (HB0.out.trans (ha1.mono HB0.out.size))
  have HO1 := Lib.hid ho1
  have HD1 := Lib.hid hd1
  have hzz := HB0.out.size
  have HA1 := Lib.hid ha1.size
  clear kz1 ho1 hd1 ha1
  go_wp2_with fail
  go_region
  have hws := putN_size w1 w.heap.size 0 [.slice A1 3 c1, .int .i64 0, .int .i64 (-1), .slice (some ⟨w1.heap.size + 1, 0, none⟩) 3 3]
  have hk := HO1.out.keep (keep_putN (w := w1) (g := w.heap.size) (.inl (by simp)) 0 [.slice A1 3 c1, .int .i64 0, .int .i64 (-1), .slice (some ⟨w1.heap.size + 1, 0, none⟩) 3 3])
  have hbp := below_putN (g := w.heap.size) HB1.out (Nat.le_refl _) 0 [.slice A1 3 c1, .int .i64 0, .int .i64 (-1), .slice (some ⟨w1.heap.size + 1, 0, none⟩) 3 3]
  obtain ⟨WS, hWS⟩ : ∃ WS, WS = putN w1 w.heap.size 0 [.slice A1 3 c1, .int .i64 0, .int .i64 (-1), .slice (some ⟨w1.heap.size + 1, 0, none⟩) 3 3] := ⟨_, rfl⟩
  have hb2 := (below2 WS (.cells #[.slice A1 3 c1, .int .i64 0, .int .i64 (-1)] 45) (.cells #[.string ⟨#[]⟩, .string ⟨#[]⟩, .string ⟨#[]⟩, .string ⟨#[]⟩, .string ⟨#[]⟩, .string ⟨#[]⟩] 135)).drew
  have hkd := alloc2_b WS (.cells #[.slice A1 3 c1, .int .i64 0, .int .i64 (-1)] 45) (.cells #[.string ⟨#[]⟩, .string ⟨#[]⟩, .string ⟨#[]⟩, .string ⟨#[]⟩, .string ⟨#[]⟩, .string ⟨#[]⟩] 135)
  rw [← hWS] at hws hk hbp
  rw [hws] at hkd
  have hsz2 : ((WS.alloc (.cells #[.slice A1 3 c1, .int .i64 0, .int .i64 (-1)] 45)).alloc (.cells #[.string ⟨#[]⟩, .string ⟨#[]⟩, .string ⟨#[]⟩, .string ⟨#[]⟩, .string ⟨#[]⟩, .string ⟨#[]⟩] 135)).drew.heap.size = w1.heap.size + 2 := by
    show ((WS.alloc _).alloc _).heap.size = _
    rw [World.size_alloc, World.size_alloc, hws]
  have hof : OwnH ((WS.alloc (.cells #[.slice A1 3 c1, .int .i64 0, .int .i64 (-1)] 45)).alloc (.cells #[.string ⟨#[]⟩, .string ⟨#[]⟩, .string ⟨#[]⟩, .string ⟨#[]⟩, .string ⟨#[]⟩, .string ⟨#[]⟩] 135)).drew w.heap.size ((WS.alloc (.cells #[.slice A1 3 c1, .int .i64 0, .int .i64 (-1)] 45)).alloc (.cells #[.string ⟨#[]⟩, .string ⟨#[]⟩, .string ⟨#[]⟩, .string ⟨#[]⟩, .string ⟨#[]⟩, .string ⟨#[]⟩] 135)).drew.heap.size A1 c1 gs (some ⟨w1.heap.size + 1, 0, none⟩) 3 (List.replicate 3 (⟨#[]⟩, ⟨#[]⟩)) :=
    ⟨_, w1.heap.size, w1.heap.size + 1, w1.heap.size + 2, hzz, HA1.out, by omega, by omega, by omega, by omega, .inl (by omega), hk.since hb2, own_3 hkd (by omega) (by omega)⟩
  have HOF := Lib.hid hof
  have HBF := Lib.hid (hbp.trans (hb2.mono hbp.size))
  subst hWS
  clear hws hk hbp hb2 hkd hsz2 hof
  go_wp2
  exact bodyPost_ret (v := .tuple #[.agg #[.slice A1 3 c1, .int .i64 0, .int .i64 (-1), .slice (some ⟨w1.heap.size + 1, 0, none⟩) 3 3], .bool true]) (by simp [results, Try.results19, go_sem, *]) rfl ⟨A1, c1, gs, _, 3, rfl, HD1.out, HOF.out, HBF.out⟩


set_option maxRecDepth 100000 in
set_option maxHeartbeats 4000000 in
theorem implNewH5 (w : World) : Calls Try.prog 19 #[.int .i64 5] w (HAPost (newHA 5) w) := by
  have HC := Lib.hid (fun W => implNewGroup_any 5 W)
  have e1 : newGA 5 = (List.replicate 5 rd0, 0, -1, true) := by unfold newGA; simp
  have e2 : newHA 5 = (List.replicate 5 rd0, 0, -1, List.replicate 5 (⟨#[]⟩, ⟨#[]⟩), true) := by unfold newHA; simp
  rw [e1] at HC
  rw [e2, HAPost_un]
  unfold GAPost at HC
  simp only [List.length_replicate] at HC ⊢
  have hmk := made_5
  have HB0 := Lib.hid (below1 w (.cells #[.slice none 0 0, .int .i64 0, .int .i64 0, .slice none 0 0] 48))
  have KZ := Lib.hid (heap_alloc_new w (.cells #[.slice none 0 0, .int .i64 0, .int .i64 0, .slice none 0 0] 48))
  clear e1 e2
  go_enter Try.func19, Try.ntmps19
  go_wp2_with fail
  (with_reducible refine (HC.out _).mono ?_)
  rintro e w1 ⟨A1, c1, gs, rfl, hd1, ho1, ha1⟩
  have kz1 := (ha1.block w.heap.size (lt_blk KZ.out)).trans KZ.out
  have z0 := cell_blk (i := 0) kz1 rfl
  have z1 := cell_blk (i := 1) kz1 rfl
  have z2 := cell_blk (i := 2) kz1 rfl
  have z3 := cell_blk (i := 3) kz1 rfl
  have fz := free_all kz1
  have zl := lt_blk kz1
  have HB1 := Lib.hid (HB0.out.trans (ha1.mono HB0.out.size))
  have HO1 := Lib.hid ho1
  have HD1 := Lib.hid hd1
  have hzz := HB0.out.size
  have HA1 := Lib.hid ha1.size
  clear kz1 ho1 hd1 ha1
  go_wp2_with fail
  go_region
  have hws := putN_size w1 w.heap.size 0 [.slice A1 5 c1, .int .i64 0, .int .i64 (-1), .slice (some ⟨w1.heap.size + 1, 0, none⟩) 5 5]
  have hk := HO1.out.keep (keep_putN (w := w1) (g := w.heap.size) (.inl (by simp)) 0 [.slice A1 5 c1, .int .i64 0, .int .i64 (-1), .slice (some ⟨w1.heap.size + 1, 0, none⟩) 5 5])
  have hbp := below_putN (g := w.heap.size) HB1.out (Nat.le_refl _) 0 [.slice A1 5 c1, .int .i64 0, .int .i64 (-1), .slice (some ⟨w1.heap.size + 1, 0, none⟩) 5 5]
  obtain ⟨WS, hWS⟩ : ∃ WS, WS = putN w1 w.heap.size 0 [.slice A1 5 c1, .int .i64 0, .int .i64 (-1), .slice (some ⟨w1.heap.size + 1, 0, none⟩) 5 5] := ⟨_, rfl⟩
  have hb2 := (below2 WS (.cells #[.slice A1 5 c1, .int .i64 0, .int .i64 (-1)] 45) (.cells #[.string ⟨#[]⟩, .string ⟨#[]⟩, .string ⟨#[]⟩, .string ⟨#[]⟩, .string ⟨#[]⟩, .string ⟨#[]⟩, .string ⟨#[]⟩, .string ⟨#[]⟩, .string ⟨#[]⟩, .string ⟨#[]⟩] 135)).drew
  have hkd := alloc2_b WS (.cells #[.slice A1 5 c1, .int .i64 0, .int .i64 (-1)] 45) (.cells #[.string ⟨#[]⟩, .string ⟨#[]⟩, .string ⟨#[]⟩, .string ⟨#[]⟩, .string ⟨#[]⟩, .string ⟨#[]⟩, .string ⟨#[]⟩, .string ⟨#[]⟩, .string ⟨#[]⟩, .string ⟨#[]⟩] 135)
  rw [← hWS] at hws hk hbp
  rw [hws] at hkd
  have hsz2 : ((WS.alloc (.cells #[.slice A1 5 c1, .int .i64 0, .int .i64 (-1)] 45)).alloc (.cells #[.string ⟨#[]⟩, .string ⟨#[]⟩, .string ⟨#[]⟩, .string ⟨#[]⟩, .string ⟨#[]⟩, .string ⟨#[]⟩, .string ⟨#[]⟩, .string ⟨#[]⟩, .string ⟨#[]⟩, .string ⟨#[]⟩] 135)).drew.heap.size = w1.heap.size + 2 := by
    show ((WS.alloc _).alloc _).heap.size = _
    rw [World.size_alloc, World.size_alloc, hws]
  have hof : OwnH ((WS.alloc (.cells #[.slice A1 5 c1, .int .i64 0, .int .i64 (-1)] 45)).alloc (.cells #[.string ⟨#[]⟩, .string ⟨#[]⟩, .string ⟨#[]⟩, .string ⟨#[]⟩, .string ⟨#[]⟩, .string ⟨#[]⟩, .string ⟨#[]⟩, .string ⟨#[]⟩, .string ⟨#[]⟩, .string ⟨#[]⟩] 135)).drew w.heap.size ((WS.alloc (.cells #[.slice A1 5 c1, .int .i64 0, .int .i64 (-1)] 45)).alloc (.cells #[.string ⟨#[]⟩, .string ⟨#[]⟩, .string ⟨#[]⟩, .string ⟨#[]⟩, .string ⟨#[]⟩, .string ⟨#[]⟩, .string ⟨#[]⟩, .string ⟨#[]⟩, .string ⟨#[]⟩, .string ⟨#[]⟩] 135)).drew.heap.size A1 c1 gs (some ⟨w1.heap.size + 1, 0, none⟩) 5 (List.replicate 5 (⟨#[]⟩, ⟨#[]⟩)) :=
    ⟨_, w1.heap.size, w1.heap.size + 1, w1.heap.size + 2, hzz, HA1.out, by omega, by omega, by omega, by omega, .inl (by omega), hk.since hb2, own_5 hkd (by omega) (by omega)⟩
  have HOF := Lib.hid hof
  have HBF := Lib.hid (hbp.trans (hb2.mono hbp.size))
  subst hWS
  clear hws hk hbp hb2 hkd hsz2 hof
  go_wp2
  exact bodyPost_ret (v := .tuple #[.agg #[.slice A1 5 c1, .int .i64 0, .int .i64 (-1), .slice (some ⟨w1.heap.size + 1, 0, none⟩) 5 5], .bool true]) (by simp [results, Try.results19, go_sem, *]) rfl ⟨A1, c1, gs, _, 5, rfl, HD1.out, HOF.out, HBF.out⟩


set_option maxRecDepth 100000 in
set_option maxHeartbeats 2000000 in
theorem specNewHouse_any (many : Int) (w : World) : Calls Try.prog 18 #[.int .i64 many] w (HAPost (newHA many) w) := by
  by_cases h3 : many = 3
  · subst h3; exact specNewH3 w
  by_cases h5 : many = 5
  · subst h5; exact specNewH5 w
  · have HC := Lib.hid (fun W => specNewGroup_any many W)
    rw [newGA_no h3 h5] at HC
    rw [newHA_no h3 h5]
    unfold GAPost noGA at HC
    simp only [List.length_nil] at HC
    have HB0 := Lib.hid (below1 w (.cells #[.slice none 0 0, .int .i64 0, .int .i64 0, .slice none 0 0] 48))
    have KZ := Lib.hid (heap_alloc_new w (.cells #[.slice none 0 0, .int .i64 0, .int .i64 0, .slice none 0 0] 48))
    clear h3 h5
    go_enter Try.func18, Try.ntmps18
    go_wp2_with fail
    (with_reducible refine (HC.out _).mono ?_)
    rintro e w1 ⟨A1, c1, gs, rfl, hd1, ho1, ha1⟩
    have kz1 := (ha1.block w.heap.size (lt_blk KZ.out)).trans KZ.out
    have z0 := cell_blk (i := 0) kz1 rfl
    have z1 := cell_blk (i := 1) kz1 rfl
    have z2 := cell_blk (i := 2) kz1 rfl
    have z3 := cell_blk (i := 3) kz1 rfl
    have fz := free_all kz1
    have zl := lt_blk kz1
    have HB1 := Lib.hid (HB0.out.trans (ha1.mono HB0.out.size))
    clear kz1 ho1 hd1 ha1
    go_wp2
    have hbp := below_putN (g := w.heap.size) HB1.out (Nat.le_refl _) 0 [.slice none 0 0, .int .i64 0, .int .i64 0, .slice none 0 0]
    exact bodyPost_ret (v := .tuple #[.agg #[.slice none 0 0, .int .i64 0, .int .i64 0, .slice none 0 0], .bool false]) (by simp [results, Try.results18, go_sem, *]) rfl (noHA_post (hbp.trans ((below1 _ _).mono hbp.size)))

set_option maxRecDepth 100000 in
set_option maxHeartbeats 2000000 in
theorem implNewHouse_any (many : Int) (w : World) : Calls Try.prog 19 #[.int .i64 many] w (HAPost (newHA many) w) := by
  by_cases h3 : many = 3
  · subst h3; exact implNewH3 w
  by_cases h5 : many = 5
  · subst h5; exact implNewH5 w
  · have HC := Lib.hid (fun W => implNewGroup_any many W)
    rw [newGA_no h3 h5] at HC
    rw [newHA_no h3 h5]
    unfold GAPost noGA at HC
    simp only [List.length_nil] at HC
    have HB0 := Lib.hid (below1 w (.cells #[.slice none 0 0, .int .i64 0, .int .i64 0, .slice none 0 0] 48))
    have KZ := Lib.hid (heap_alloc_new w (.cells #[.slice none 0 0, .int .i64 0, .int .i64 0, .slice none 0 0] 48))
    clear h3 h5
    go_enter Try.func19, Try.ntmps19
    go_wp2_with fail
    (with_reducible refine (HC.out _).mono ?_)
    rintro e w1 ⟨A1, c1, gs, rfl, hd1, ho1, ha1⟩
    have kz1 := (ha1.block w.heap.size (lt_blk KZ.out)).trans KZ.out
    have z0 := cell_blk (i := 0) kz1 rfl
    have z1 := cell_blk (i := 1) kz1 rfl
    have z2 := cell_blk (i := 2) kz1 rfl
    have z3 := cell_blk (i := 3) kz1 rfl
    have fz := free_all kz1
    have zl := lt_blk kz1
    have HB1 := Lib.hid (HB0.out.trans (ha1.mono HB0.out.size))
    clear kz1 ho1 hd1 ha1
    go_wp2
    have hbp := below_putN (g := w.heap.size) HB1.out (Nat.le_refl _) 0 [.slice none 0 0, .int .i64 0, .int .i64 0, .slice none 0 0]
    exact bodyPost_ret (v := .tuple #[.agg #[.slice none 0 0, .int .i64 0, .int .i64 0, .slice none 0 0], .bool false]) (by simp [results, Try.results19, go_sem, *]) rfl (noHA_post (hbp.trans ((below1 _ _).mono hbp.size)))
theorem newHA_sz (many : Int) : rpSz (newHA many).1 ≤ 1048576 ∧ (newHA many).2.2.2.1.length ≤ 1048576 := by
  unfold newHA
  split
  · rename_i h
    rcases h with rfl | rfl <;> exact ⟨by decide, by decide⟩
  · exact ⟨by decide, by decide⟩
end Go.Proofs.Ytkhndofplebcaaa.Hs
