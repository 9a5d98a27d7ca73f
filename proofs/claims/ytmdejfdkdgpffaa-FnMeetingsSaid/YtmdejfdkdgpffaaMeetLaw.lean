/-
  The walk of the exact law of MeetSpans.
-/
import Derived.Test.YtmdejfdkdgpffaaMeet2
namespace Go.Proofs.Ytmdejfdkdgpffaa
open Go.RowKit
set_option linter.unusedVariables false

theorem meetSpans_lit (A : Option Addr) (n c : Nat) (xs : List (Int × Int)) (w : World) (hn : xs.length = n) (h : SpansAt w A xs) (hl : n ≤ 1048576) :
    Calls Try.prog 27 #[.slice A n c] w fun e w' => e = .returned (.tuple #[.agg #[.int .i64 (mtLo xs), .int .i64 (mtHi xs)], .bool (mtOk xs)]) ∧ Below w.heap.size w w' := meetSpans_any A n c xs w hn h hl
theorem specMeetSpans_lit (A : Option Addr) (n c : Nat) (xs : List (Int × Int)) (w : World) (hn : xs.length = n) (h : SpansAt w A xs) (hl : n ≤ 1048576) :
    Calls Try.prog 31 #[.slice A n c] w fun e w' => e = .returned (.tuple #[.agg #[.int .i64 (mtLo xs), .int .i64 (mtHi xs)], .bool (mtOk xs)]) ∧ Below w.heap.size w w' := specMeetSpans_any A n c xs w hn h hl

set_option maxRecDepth 100000 in
set_option maxHeartbeats 2000000 in
theorem meetSpans_walk (A : Option Addr) (n c : Nat) (xs : List (Int × Int)) (w : World) (hn : xs.length = n) (h : SpansAt w A xs) (hl : n ≤ maxLen) :
    Calls Try.prog 10 #[.slice A n c] w fun e w' => e = .returned (.bool true) ∧ Below w.heap.size w w' := by
  by_cases hlong : 1048576 < n
  · have HZ := Lib.hid (sz_no A n c w hl hlong)
    clear h hn
    go_enter Try.func10, Try.ntmps10
    go_wp2_with fail
    refine HZ.out.mono ?_
    rintro e w' ⟨rfl, rfl⟩
    go_wp2
    go_ret
    exact ⟨rfl, Below.refl _ _⟩
  · have hle : n ≤ 1048576 := by omega
    have HZ := Lib.hid (sz_yes A n c w hle)
    have HN := Lib.hid hn
    have HS := Lib.hid h
    have H1 := to_any A n c xs w hn h hle
    unfold ToPost at H1
    rw [hn] at H1
    replace H1 := Lib.hid H1
    clear h hn hl
    go_enter Try.func10, Try.ntmps10
    go_wp2_with fail
    refine HZ.out.mono ?_
    rintro e w' ⟨rfl, rfl⟩
    go_wp2_with fail
    refine H1.out.mono ?_
    rintro e w1 ⟨g1, rfl, hg1, hF1, hb1⟩
    have hs1 := hF1
    rw [← HN.out] at hs1
    replace hs1 := hs1.spans
    have HC1 := Lib.hid (specMeetSpans_lit (some ⟨g1, 0, none⟩) n n xs w1 HN.out hs1 hle)
    clear hF1 hs1 hg1
    go_wp2_with fail
    refine HC1.out.mono ?_
    rintro e w2 ⟨rfl, hb2⟩
    have B2 := hb1.trans (hb2.mono hb1.size)
    have B2a := B2.alloc B2.size (.cells #[.int .i64 (mtLo xs), .int .i64 (mtHi xs)] 29)
    have H3 := to_any A n c xs _ HN.out (HS.out.below B2a) hle
    unfold ToPost at H3
    rw [HN.out] at H3
    have HB2a := Lib.hid B2a
    replace H3 := Lib.hid H3
    have HP := Lib.hid (heap_alloc_new w2 (.cells #[.int .i64 (mtLo xs), .int .i64 (mtHi xs)] 29))
    clear B2 B2a hb1 hb2
    go_wp2_with fail
    refine H3.out.mono ?_
    rintro e w3 ⟨g3, rfl, hg3, hF3, hb3⟩
    have hs3 := hF3
    rw [← HN.out] at hs3
    replace hs3 := hs3.spans
    have HS3 := Lib.hid hs3
    have HC3 := Lib.hid (meetSpans_lit (some ⟨g3, 0, none⟩) n n xs w3 HN.out hs3 hle)
    have B3 := HB2a.out.trans (hb3.mono HB2a.out.size)
    have hp3 := (hb3.block _ (by simp)).trans HP.out
    have HB3 := Lib.hid B3
    have HP3 := Lib.hid hp3
    clear hF3 hs3 hg3 B3 hp3 hb3
    go_wp2_with fail
    refine HC3.out.mono ?_
    rintro e w4 ⟨rfl, hb4⟩
    have hp4 := (hb4.block _ (lt_blk HP3.out)).trans HP3.out
    have hs4 := lt_blk hp4
    have p0 := cell_blk (i := 0) hp4 rfl
    have p1 := cell_blk (i := 1) hp4 rfl
    have HB4 := Lib.hid (HB3.out.trans (hb4.mono HB3.out.size))
    have HS4 := Lib.hid (HS3.out.below hb4)
    clear hp4 hb4
    go_wp2_with fail
    refine (eqSpan_same _ _ _).mono ?_
    rintro e w5 ⟨rfl, hb5⟩
    have hb5' := (below1 w4 (.cells #[.int .i64 (mtLo xs), .int .i64 (mtHi xs)] 29)).trans (hb5.mono (below1 _ _).size)
    have B5 := HB4.out.trans (hb5'.mono HB4.out.size)
    have HB5 := Lib.hid B5
    have HS5 := Lib.hid (HS4.out.below hb5')
    have H5 := to_any A n c xs _ HN.out (HS.out.below B5) hle
    unfold ToPost at H5
    rw [HN.out] at H5
    replace H5 := Lib.hid H5
    clear hb5 hb5' B5 p0 p1
    go_wp2_with fail
    refine H5.out.mono ?_
    rintro e w6 ⟨g6, rfl, hg6, hF6, hb6⟩
    have hs6 := hF6
    rw [← HN.out] at hs6
    replace hs6 := hs6.spans
    have HE := Lib.hid (eqSpanS_any (some ⟨g3, 0, none⟩) (some ⟨g6, 0, none⟩) n n n xs w6 HN.out (HS5.out.below hb6) hs6 hle)
    have B6 := HB5.out.trans (hb6.mono HB5.out.size)
    have HB6 := Lib.hid B6
    clear hF6 hs6 hg6 hb6 B6
    go_wp2_with fail
    refine HE.out.mono ?_
    rintro e w7 ⟨rfl, hb7⟩
    have HB7 := Lib.hid (HB6.out.trans (hb7.mono HB6.out.size))
    clear hb7
    go_wp2
    go_ret
    exact ⟨rfl, HB7.out⟩
end Go.Proofs.Ytmdejfdkdgpffaa
