/-
  The model's l9Up.
-/
import Derived.Test.YtkhndofplebcaaaGrGd
import Derived.Test.YtkhndofplebcaaaGrChM
namespace Go.Proofs.Ytkhndofplebcaaa.Gr
open Go.RowKit CM
set_option linter.unusedVariables false
set_option linter.unusedSimpArgs false

theorem inB_has (n : Nat) (r : Int) : inB r 0 ((n : Int) - 1) = hasB n r := by
  unfold inB hasB
  congr 1
  rw [Bool.eq_iff_iff]
  simp only [decide_eq_true_eq]
  omega
set_option maxRecDepth 100000 in
set_option maxHeartbeats 4000000 in
theorem l9Up_any (A : Option Addr) (n c : Nat) (tm ld r : Int) (u : Bool) (hs : List RH) (B : Nat) (w : World) (hn : hs.length = n) (h : RowsB KR w B A hs) (hB : B ≤ w.heap.size) (hm : RpSmall (hs.map rdat)) :
    Calls Try.prog 74 #[.agg #[.slice A n c, .int .i64 tm, .int .i64 ld], .int .i64 r, .bool u] w fun e w' => e = .returned (.bool (grpB tm ld (hs.map rdat) && (hasB n r && (upAt (hs.map rdat) r.toNat == u)))) ∧ Below w.heap.size w w' := by
  have hb0 := below1 w (.cells #[.slice A n c, .int .i64 tm, .int .i64 ld] 45)
  have hk0 := heap_alloc_new w (.cells #[.slice A n c, .int .i64 tm, .int .i64 ld] 45)
  have hnl : n ≤ 1048576 := by have := hm.1; simp at this; omega
  have HGG := Lib.hid (specGoodGroup_any A n c tm ld hs B _ hn (h.below (hb0.mono hB)) (Nat.le_trans hB hb0.size) hm)
  have HL := Lib.hid (fun W => l1In_any r 0 ((n : Int) - 1) W)
  rw [inB_has] at HL
  have HB0 := Lib.hid hb0
  have HK0 := Lib.hid hk0
  have hwl : w.heap.size < (w.alloc (.cells #[.slice A n c, .int .i64 tm, .int .i64 ld] 45)).heap.size := by simp
  clear hb0 hk0
  cases hg : grpB tm ld (hs.map rdat) with
  | false =>
    rw [hg] at HGG
    clear hg
    go_enter Try.func74, Try.ntmps74
    go_wp2_with fail
    (with_reducible refine HGG.out.mono ?_)
    rintro e w1 ⟨rfl, ha1⟩
    have HB1 := Lib.hid (HB0.out.trans (ha1.mono HB0.out.size))
    clear ha1
    go_wp2
    go_ret
    exact ⟨rfl, HB1.out⟩
  | true =>
    rw [hg] at HGG
    rw [Bool.true_and]
    clear hg
    cases hh : hasB n r with
    | false =>
      rw [hh] at HL
      clear hh
      go_enter Try.func74, Try.ntmps74
      go_wp2_with fail
      (with_reducible refine HGG.out.mono ?_)
      rintro e w1 ⟨rfl, ha1⟩
      have HB1 := Lib.hid (HB0.out.trans (ha1.mono HB0.out.size))
      have hk1 := (ha1.block w.heap.size hwl).trans HK0.out
      have y0 := cell_of_row _ _ 0 _ 45 (0, 0) hk1
      clear ha1 hk1
      go_wp2_with fail
      (with_reducible refine (HL.out _).mono ?_)
      rintro e w2 ⟨rfl, rfl⟩
      go_wp2
      go_ret
      exact ⟨rfl, HB1.out⟩
    | true =>
      rw [hh] at HL
      rw [Bool.true_and]
      obtain ⟨q, hq, hqn⟩ := hasB_nat hh
      subst hq
      have hqh : q < hs.length := by omega
      obtain ⟨b, off, rfl, hbB, hc⟩ := rp_get h (by omega)
      obtain ⟨hc0, hc1, hc2⟩ := hc q hqh
      rw [Int.toNat_natCast, upAt_map hqh]
      obtain ⟨v, hv⟩ : ∃ v, v = (hs[q]'hqh).up := ⟨_, rfl⟩
      rw [← hv] at hc0 ⊢
      have hq0 : (0 : Int) ≤ (q : Int) := by omega
      have hq1 : (q : Int) < (n : Int) := by omega
      have hbw := Nat.lt_of_lt_of_le hbB hB
      clear hh hc hc1 hc2 hv hqh hqn h hm hn
      go_enter Try.func74, Try.ntmps74
      go_wp2_with fail
      (with_reducible refine HGG.out.mono ?_)
      rintro e w1 ⟨rfl, ha1⟩
      have hb1 := HB0.out.trans (ha1.mono HB0.out.size)
      have hk1 := (ha1.block w.heap.size hwl).trans HK0.out
      have y0 := cell_of_row _ _ 0 _ 45 (0, 0) hk1
      have p0 := (hb1.cell (p := ⟨b, off + q * 3, none⟩) hbw).trans hc0
      have yl := lt_blk hk1
      have HB1 := Lib.hid hb1
      clear ha1 hk1 hb1 hc0
      go_wp2_with fail
      (with_reducible refine (HL.out _).mono ?_)
      rintro e w2 ⟨rfl, rfl⟩
      cases u <;> cases v
      all_goals
        go_wp2
        go_ret
        exact ⟨rfl, HB1.out⟩
end Go.Proofs.Ytkhndofplebcaaa.Gr
