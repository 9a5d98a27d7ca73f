/-
  The model's span of a node, leases in the way, leases held.
-/
import Derived.Test.YtpppgihoekfmoaaWtF2
import Derived.Deep.RegionHeld3
import Derived.Deep.DeepCutAuto
namespace Go.Proofs.Ytpppgihoekfmoaa.Wt
open Go.RowKit
set_option linter.unusedVariables false
set_option linter.unusedSimpArgs false

theorem l1MostW_any (a b : Int) (w : World) :
    Calls Try.prog 36 #[.int .i64 a, .int .i64 b] w fun e w' => e = .returned (.int .i64 (max a b)) ∧ w = w' := by
  by_cases h : b < a
  · rw [show max a b = a by omega]
    go_enter Try.func36, Try.ntmps36
    go_wp2
    go_ret
    exact ⟨rfl, rfl⟩
  · rw [show max a b = b by omega]
    go_enter Try.func36, Try.ntmps36
    go_wp2
    go_ret
    exact ⟨rfl, rfl⟩
set_option maxHeartbeats 1000000 in
theorem l2At_any (tm c : Int) (w : World) (h1 : 0 ≤ tm ∧ tm ≤ 100000) (h2 : -5 ≤ c ∧ c ≤ 5) :
    Calls Try.prog 56 #[.agg #[.int .i64 c], .int .i64 tm] w fun e w' => e = .returned (.agg #[.int .i64 (lowW tm c), .int .i64 (highW tm c)]) ∧ Below w.heap.size w w' := by
  obtain ⟨a1, a2⟩ := h1
  obtain ⟨b1, b2⟩ := h2
  unfold lowW highW
  go_enter Try.func56, Try.ntmps56
  go_wp2
  exact bodyPost_ret (v := .agg #[.int .i64 (tm + c - 5), .int .i64 (tm + c + 5)]) (by simp [results, Try.results56, go_sem]) rfl ⟨rfl, below2 _ _ _⟩
theorem fldLo (p q : Int) (W : World) : (Instr.field 58 (.agg #[.int .i64 p, .int .i64 q]) 0).run Try.prog W = .ok (.int .i64 p) W := by kernel_rfl
theorem fldHi (p q : Int) (W : World) : (Instr.field 58 (.agg #[.int .i64 p, .int .i64 q]) 1).run Try.prog W = .ok (.int .i64 q) W := by kernel_rfl
theorem offs_at {tm a : Int} {cs : List Int} {ls : List (Int × Int × Int)} (hw : hasW tm cs ls a = true) : ∃ k : Nat, a = (k : Int) ∧ ∃ h : k < cs.length, cs[k] = offW cs a := by
  obtain ⟨_, h1, h2⟩ := hasW_true hw
  refine ⟨a.toNat, by omega, by omega, ?_⟩
  exact (offW_at (cs := cs) a.toNat (by omega) (by omega)).symm

theorem put2_cell {w : World} {g b o : Nat} {p q : Value} (hne : b ≠ g) : ((w.setCell ⟨g, 0, none⟩ p).setCell ⟨g, 1, none⟩ q).cell? ⟨b, o, none⟩ = w.cell? ⟨b, o, none⟩ := by
  simp [World.cell?, World.setCell, Array.getElem?_modify, Ne.symm hne]
theorem bel_put2 {B g : Nat} {w w' : World} {a b : Value} (h : Below B w w') (hg : B ≤ g) : Below B w ((w'.setCell ⟨g, 0, none⟩ a).setCell ⟨g, 1, none⟩ b) :=
  (h.setCell (p := ⟨g, 0, none⟩) hg a).setCell (p := ⟨g, 1, none⟩) hg b

set_option maxRecDepth 100000 in
set_option maxHeartbeats 4000000 in
theorem l10Span_any (tm : Int) (A A' : Option Addr) (n c n' c' : Nat) (is : List Int) (ls : List (Int × Int × Int)) (a : Int) (B : Nat) (w : World) (hn : is.length = n) (hn' : ls.length = n') (h : CksB w B A is) (h' : LesB w B A' ls) (hB : B ≤ w.heap.size) (hw : hasW tm is ls a = true) :
    Calls Try.prog 35 #[.agg #[.int .i64 tm, .slice A n c, .slice A' n' c'], .int .i64 a] w fun e w' => e = .returned (.agg #[.int .i64 (lowW tm (offW is a)), .int .i64 (highW tm (offW is a))]) ∧ Below w.heap.size w w' := by
  obtain ⟨k, rfl, hk, hx⟩ := offs_at hw
  have hsm := off_small hw
  have htm := (wchB_true (hasW_true hw).1).1
  obtain ⟨b, off, rfl, hbB, hc⟩ := h.get (by omega)
  have hck := hc k hk
  rw [hx] at hck
  obtain ⟨x, hxx⟩ : ∃ x, x = offW is (k : Int) := ⟨_, rfl⟩
  rw [← hxx] at hck hsm ⊢
  have HC := Lib.hid (fun W => l2At_any tm x W htm hsm)
  have hkn : (k : Int) < (n : Int) := by omega
  have hk0 : (0 : Int) ≤ (k : Int) := by omega
  have HB0 := Lib.hid (below2 w (.cells #[.int .i64 tm, .slice (some ⟨b, off, none⟩) n c, .slice A' n' c'] 30) (.cells #[.int .i64 0, .int .i64 0] 58))
  have hb0 := ((below1 (w.alloc (.cells #[.int .i64 tm, .slice (some ⟨b, off, none⟩) n c, .slice A' n' c'] 30)) (.cells #[.int .i64 0, .int .i64 0] 58)).block w.heap.size (by simp)).trans (heap_alloc_new w (.cells #[.int .i64 tm, .slice (some ⟨b, off, none⟩) n c, .slice A' n' c'] 30))
  have hr0 := alloc_snd w (.cells #[.int .i64 tm, .slice (some ⟨b, off, none⟩) n c, .slice A' n' c'] 30) (.cells #[.int .i64 0, .int .i64 0] 58)
  obtain ⟨W0, hW0⟩ : ∃ W0, W0 = ((w.alloc (.cells #[.int .i64 tm, .slice (some ⟨b, off, none⟩) n c, .slice A' n' c'] 30)).alloc (.cells #[.int .i64 0, .int .i64 0] 58)) := ⟨_, rfl⟩
  have hsz0 : W0.heap.size = w.heap.size + 2 := by rw [hW0]; simp
  rw [← hW0] at HB0 hb0 hr0
  have c0 : W0.cell? ⟨w.heap.size, 0, none⟩ = some (.int .i64 tm) := cell_blk hb0 rfl
  have c1 : W0.cell? ⟨w.heap.size, 1, none⟩ = some (.slice (some ⟨b, off, none⟩) n c) := cell_blk hb0 rfl
  have c2 : W0.cell? ⟨b, off + k, none⟩ = some (.int .i64 x) := (HB0.out.cell (p := ⟨b, off + k, none⟩) (Nat.lt_of_lt_of_le hbB hB)).trans hck
  have r0 : W0.cell? ⟨w.heap.size + 1, 0, none⟩ = some (.int .i64 0) := cell_blk hr0 rfl
  have r1 : W0.cell? ⟨w.heap.size + 1, 1, none⟩ = some (.int .i64 0) := cell_blk hr0 rfl
  have f0 := free_blk hr0 0
  have f1 := free_blk hr0 1
  have l0 : w.heap.size < W0.heap.size := by omega
  have l1 : w.heap.size + 1 < W0.heap.size := by omega
  have l2 : b < W0.heap.size := by omega
  have hne : w.heap.size ≠ w.heap.size + 1 := by omega
  have hneb : b ≠ w.heap.size + 1 := by omega
  have HS0 : W0.drew.cell? ⟨w.heap.size, 0, none⟩ = some (.int .i64 tm) ∧ W0.drew.cell? ⟨w.heap.size, 1, none⟩ = some (.slice (some ⟨b, off, none⟩) n c) ∧ W0.drew.cell? ⟨b, off + k, none⟩ = some (.int .i64 x) := ⟨c0, c1, c2⟩
  clear h h' hn hn' hc hck hxx hx hw hk htm hsm hb0 hr0 hsz0
  go_enter Try.func35, Try.ntmps35
  go_upto_region 1 with fail
  rw [← hW0]
  clear hW0
  go_region_held3 (fun w' => w'.cell? ⟨w.heap.size, 0, none⟩ = some (.int .i64 tm) ∧ w'.cell? ⟨w.heap.size, 1, none⟩ = some (.slice (some ⟨b, off, none⟩) n c) ∧ w'.cell? ⟨b, off + k, none⟩ = some (.int .i64 x))
    (first | with_reducible exact HS0 | with_reducible exact ⟨kept2 hb1 c0 l0, kept2 hb1 c1 l0, kept2 hb1 c2 l2⟩ | with_reducible exact ⟨(put2_cell hne).trans (kept2 hb1 c0 l0), (put2_cell hne).trans (kept2 hb1 c1 l0), (put2_cell hneb).trans (kept2 hb1 c2 l2)⟩)
    ((go_at_call 56; (with_reducible refine (HC.out _).mono ?_); rintro e w1 ⟨rfl, hb1'⟩; have hb1 : Below W0.heap.size W0 w1 := below_d0W hb1'; have y0 := kept2 hb1 r0 l1; have y1 := kept2 hb1 r1 l1; have z0 := keptFW hb1 f0 l1; have z1 := keptFW hb1 f1 l1))
  have HBF := Lib.hid (HB0.out.trans (hb1.mono HB0.out.size))
  clear HS0 hb1' hb1 c0 c1 c2 r0 r1 f0 f1
  go_wp2
  exact bodyPost_ret (v := .agg #[.int .i64 (lowW tm x), .int .i64 (highW tm x)]) (by simp [results, Try.results35, go_sem, y0, y1, z0, z1]) rfl ⟨rfl, bel_put2 HBF.out (by omega)⟩

theorem free_step {a lo : Int} {ls : List (Int × Int × Int)} {k : Nat} (hk : k < ls.length) : freeW a lo (ls.drop k) = (freeL a lo ls[k] && freeW a lo (ls.drop (k + 1))) := by
  unfold freeW
  rw [List.drop_eq_getElem_cons hk, List.all_cons]
theorem free_end {a lo : Int} {ls : List (Int × Int × Int)} {k : Nat} (hk : ls.length ≤ k) : freeW a lo (ls.drop k) = true := by
  rw [List.drop_of_length_le hk]; rfl
theorem hold_step {a hi : Int} {ls : List (Int × Int × Int)} {k : Nat} (hk : k < ls.length) : holdW a hi (ls.drop k) = (holdsL a hi ls[k] || holdW a hi (ls.drop (k + 1))) := by
  unfold holdW
  rw [List.drop_eq_getElem_cons hk, List.any_cons]
theorem hold_end {a hi : Int} {ls : List (Int × Int × Int)} {k : Nat} (hk : ls.length ≤ k) : holdW a hi (ls.drop k) = false := by
  rw [List.drop_of_length_le hk]; rfl

set_option maxRecDepth 100000 in
set_option maxHeartbeats 4000000 in
theorem l10Free_any (tm : Int) (A A' : Option Addr) (n c n' c' : Nat) (is : List Int) (ls : List (Int × Int × Int)) (a lo : Int) (B : Nat) (w : World) (hn : is.length = n) (hn' : ls.length = n') (h : CksB w B A is) (h' : LesB w B A' ls) (hB : B ≤ w.heap.size) (hl' : n' ≤ 2000000) :
    Calls Try.prog 41 #[.agg #[.int .i64 tm, .slice A n c, .slice A' n' c'], .int .i64 a, .int .i64 lo] w fun e w' => e = .returned (.bool (freeW a lo ls)) ∧ Below w.heap.size w w' := by
  have HB0 := Lib.hid (below1 w (.cells #[.int .i64 tm, .slice A n c, .slice A' n' c'] 30))
  have HBK := Lib.hid (heap_alloc_new w (.cells #[.int .i64 tm, .slice A n c, .slice A' n' c'] 30))
  have hge' := Nat.le_of_eq hn'
  have hle' := Nat.le_of_eq hn'.symm
  have HL := Lib.hid h'
  obtain ⟨r, hr⟩ : ∃ r, r = freeW a lo ls := ⟨_, rfl⟩
  have HR := Lib.hid (show r = freeW a lo (ls.drop 0) from hr)
  rw [← hr]
  clear h h' hn hn' hr
  go_enter Try.func41, Try.ntmps41
  go_wp2
  go_loopw [7] (fun i wr => ∃ k : Nat, k ≤ n' ∧ i = .int .i64 k ∧ Hid (r = freeW a lo (ls.drop k)) ∧ Hid (Below w.heap.size w wr) ∧ Hid (wr.heap[w.heap.size]? = some (.cells #[.int .i64 tm, .slice A n c, .slice A' n' c'] 30 (0, 0)))) (fun i _ => n' - (intOf i).toNat)
  case atStart => exact ⟨0, by omega, rfl, HR, HB0.out, HBK.out⟩
  case round =>
    clear HB0 HBK HR
    obtain ⟨k, hk, rfl, HR, HB, HK⟩ := hrel
    have k0 := cell_of_row _ _ 0 _ 30 (0, 0) HK.out
    have k1 := cell_of_row _ _ 1 _ 30 (0, 0) HK.out
    have k2 := cell_of_row _ _ 2 _ 30 (0, 0) HK.out
    have hlw := lt_blk HK.out
    by_cases hlt : k < n'
    · obtain ⟨b, off, rfl, hbB, hc⟩ := HL.out.get (by omega)
      obtain ⟨hc0, hc1, hc2⟩ := hc k (by omega)
      have c0 := (HB.out.cell (p := ⟨b, off + k * 3, none⟩) (Nat.lt_of_lt_of_le hbB hB)).trans hc0
      have c1 := (HB.out.cell (p := ⟨b, off + k * 3 + 1, none⟩) (Nat.lt_of_lt_of_le hbB hB)).trans hc1
      have c2 := (HB.out.cell (p := ⟨b, off + k * 3 + 2, none⟩) (Nat.lt_of_lt_of_le hbB hB)).trans hc2
      have HRS := Lib.hid (HR.out.trans (free_step (show k < ls.length by omega)))
      obtain ⟨y, hy⟩ : ∃ y, y = ls[k]'(by omega) := ⟨_, rfl⟩
      rw [← hy] at c0 c1 c2 HRS
      obtain ⟨s0, s1, s2⟩ := y
      simp only at c0 c1 c2
      have hk0 : (0 : Int) ≤ (k : Int) := by omega
      have hkn : (k : Int) < (n' : Int) := by omega
      clear hc hc0 hc1 hc2 hy HR
      by_cases h1 : s0 = a
      · have HR2 := Lib.hid (show r = freeW a lo (ls.drop (k + 1)) by rw [HRS.out]; simp [freeL, h1])
        have h1n : (s0 != a) = false := by simp [h1]
        have h1d : decide (s0 = a) = true := by simp [h1]
        clear HRS
        go_wp2
        go_roundw
        case rel => exact ⟨k + 1, by omega, by go_num, HR2, HB.out, HK.out⟩
        case measure => simp [intOf]; omega
      · by_cases h2 : lo ≤ s2
        · have HNO := Lib.hid (ret_bool (show false = r by rw [HRS.out]; simp [freeL, h1, h2]))
          have h1n : (s0 != a) = true := by simp [h1]
          have h1d : decide (s0 = a) = false := by simp [h1]
          clear HRS
          go_wp2
          go_ret
          exact ⟨HNO.out, HB.out⟩
        · have HR2 := Lib.hid (show r = freeW a lo (ls.drop (k + 1)) by rw [HRS.out]; simp [freeL, h2])
          have h1n : (s0 != a) = true := by simp [h1]
          have h1d : decide (s0 = a) = false := by simp [h1]
          have h2d : decide (lo ≤ s2) = false := by simp; omega
          clear HRS
          go_wp2
          go_roundw
          case rel => exact ⟨k + 1, by omega, by go_num, HR2, HB.out, HK.out⟩
          case measure => simp [intOf]; omega
    · have HYES := Lib.hid (ret_bool (show true = r by rw [HR.out, free_end (by omega)]))
      go_wp2
      go_ret
      exact ⟨HYES.out, HB.out⟩

set_option maxRecDepth 100000 in
set_option maxHeartbeats 4000000 in
theorem l10Holds_any (tm : Int) (A A' : Option Addr) (n c n' c' : Nat) (is : List Int) (ls : List (Int × Int × Int)) (a : Int) (B : Nat) (w : World) (hn : is.length = n) (hn' : ls.length = n') (h : CksB w B A is) (h' : LesB w B A' ls) (hB : B ≤ w.heap.size) (hw : hasW tm is ls a = true) :
    Calls Try.prog 63 #[.agg #[.int .i64 tm, .slice A n c, .slice A' n' c'], .int .i64 a] w fun e w' => e = .returned (.bool (holdW a (highW tm (offW is a)) ls)) ∧ Below w.heap.size w w' := by
  have hl40 := (wchB_true (hasW_true hw).1).2.2.1
  have HB0 := Lib.hid (below1 w (.cells #[.int .i64 tm, .slice A n c, .slice A' n' c'] 30))
  have HBK := Lib.hid (heap_alloc_new w (.cells #[.int .i64 tm, .slice A n c, .slice A' n' c'] 30))
  have HSP := Lib.hid (l10Span_any tm A A' n c n' c' is ls a B _ hn hn' (h.below (HB0.out.mono hB)) (h'.below (HB0.out.mono hB)) (Nat.le_trans hB HB0.out.size) hw)
  have hge' := Nat.le_of_eq hn'
  have hle' := Nat.le_of_eq hn'.symm
  have HL := Lib.hid h'
  obtain ⟨lo, hlo⟩ : ∃ lo, lo = lowW tm (offW is a) := ⟨_, rfl⟩
  obtain ⟨hi, hhi⟩ : ∃ hi, hi = highW tm (offW is a) := ⟨_, rfl⟩
  rw [← hlo, ← hhi] at HSP
  rw [← hhi]
  obtain ⟨r, hr⟩ : ∃ r, r = holdW a hi ls := ⟨_, rfl⟩
  have HR := Lib.hid (show r = holdW a hi (ls.drop 0) from hr)
  rw [← hr]
  clear h h' hn hn' hr hw hlo hhi
  go_enter Try.func63, Try.ntmps63
  go_wp2_with fail
  refine HSP.out.mono ?_
  rintro e w1 ⟨rfl, hb1⟩
  have HB1 := Lib.hid (HB0.out.trans (hb1.mono HB0.out.size))
  have HBK1 := Lib.hid ((hb1.block w.heap.size (by simp)).trans HBK.out)
  clear hb1 HB0 HBK HSP
  have hfd := fldHi lo hi
  go_wp2
  clear hfd
  go_loopw [6] (fun i wr => ∃ k : Nat, k ≤ n' ∧ i = .int .i64 k ∧ Hid (r = holdW a hi (ls.drop k)) ∧ Hid (Below w.heap.size w wr) ∧ Hid (wr.heap[w.heap.size]? = some (.cells #[.int .i64 tm, .slice A n c, .slice A' n' c'] 30 (0, 0)))) (fun i _ => n' - (intOf i).toNat)
  case atStart => exact ⟨0, by omega, rfl, HR, HB1.out, HBK1.out⟩
  case round =>
    clear HB1 HBK1 HR
    obtain ⟨k, hk, rfl, HR, HB, HK⟩ := hrel
    have k0 := cell_of_row _ _ 0 _ 30 (0, 0) HK.out
    have k1 := cell_of_row _ _ 1 _ 30 (0, 0) HK.out
    have k2 := cell_of_row _ _ 2 _ 30 (0, 0) HK.out
    have hlw := lt_blk HK.out
    by_cases hlt : k < n'
    · obtain ⟨b, off, rfl, hbB, hc⟩ := HL.out.get (by omega)
      obtain ⟨hc0, hc1, hc2⟩ := hc k (by omega)
      have c0 := (HB.out.cell (p := ⟨b, off + k * 3, none⟩) (Nat.lt_of_lt_of_le hbB hB)).trans hc0
      have c1 := (HB.out.cell (p := ⟨b, off + k * 3 + 1, none⟩) (Nat.lt_of_lt_of_le hbB hB)).trans hc1
      have c2 := (HB.out.cell (p := ⟨b, off + k * 3 + 2, none⟩) (Nat.lt_of_lt_of_le hbB hB)).trans hc2
      have HRS := Lib.hid (HR.out.trans (hold_step (show k < ls.length by omega)))
      obtain ⟨y, hy⟩ : ∃ y, y = ls[k]'(by omega) := ⟨_, rfl⟩
      rw [← hy] at c0 c1 c2 HRS
      obtain ⟨s0, s1, s2⟩ := y
      simp only at c0 c1 c2
      have hk0 : (0 : Int) ≤ (k : Int) := by omega
      have hkn : (k : Int) < (n' : Int) := by omega
      clear hc hc0 hc1 hc2 hy HR
      have HB1 := Lib.hid (below1 wr (.cells #[.int .i64 s0, .int .i64 s1, .int .i64 s2] 55))
      have HBX := Lib.hid (HB.out.trans (HB1.out.mono HB.out.size))
      have HKX := Lib.hid ((HB1.out.block w.heap.size hlw).trans HK.out)
      by_cases h1 : s0 = a
      · subst h1
        by_cases h2 : s1 ≤ hi
        · by_cases h3 : hi ≤ s2
          · have HNO := Lib.hid (ret_bool (show true = r by rw [HRS.out]; simp [holdsL, h2, h3]))
            clear HRS
            go_wp2
            go_ret
            exact ⟨HNO.out, HBX.out⟩
          · have HR2 := Lib.hid (show r = holdW s0 hi (ls.drop (k + 1)) by rw [HRS.out]; simp [holdsL, h3])
            have h3d : decide (hi ≤ s2) = false := by simp; omega
            clear HRS
            go_wp2
            go_roundw
            case rel => exact ⟨k + 1, by omega, by go_num, HR2, HBX.out, HKX.out⟩
            case measure => simp [intOf]; omega
        · have HR2 := Lib.hid (show r = holdW s0 hi (ls.drop (k + 1)) by rw [HRS.out]; simp [holdsL, h2])
          have h2d : decide (s1 ≤ hi) = false := by simp; omega
          clear HRS
          go_wp2
          go_roundw
          case rel => exact ⟨k + 1, by omega, by go_num, HR2, HBX.out, HKX.out⟩
          case measure => simp [intOf]; omega
      · have HR2 := Lib.hid (show r = holdW a hi (ls.drop (k + 1)) by rw [HRS.out]; simp [holdsL, h1])
        have h1d : decide (s0 = a) = false := by simp [h1]
        clear HRS
        go_wp2
        go_roundw
        case rel => exact ⟨k + 1, by omega, by go_num, HR2, HBX.out, HKX.out⟩
        case measure => simp [intOf]; omega
    · have HYES := Lib.hid (ret_bool (show false = r by rw [HR.out, hold_end (by omega)]))
      go_wp2
      go_ret
      exact ⟨HYES.out, HB.out⟩
end Go.Proofs.Ytpppgihoekfmoaa.Wt
