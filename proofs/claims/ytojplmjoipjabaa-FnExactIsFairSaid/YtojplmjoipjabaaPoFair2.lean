/-
  The contract for IsFair of the model.
-/
import Derived.Test.YtojplmjoipjabaaPoGood5
import Derived.BigQuiet
import Derived.Deep.QuietTactic
namespace Go.Proofs.Ytojplmjoipjabaa.Po
open Go.RowKit Nt
set_option linter.unusedVariables false
set_option linter.unusedSimpArgs false

set_option maxRecDepth 100000 in
set_option maxHeartbeats 8000000 in
theorem specIsFair_any (A A1 A2 A3 : Option Addr) (n c n1 c1 n2 c2 n3 c3 : Nat) (now far : Int) (hs : List ((Bool × Int × Int × Bool) × Option Addr × Nat × List Int)) (is : List Int) (ls : List (Int × Int × Int × ByteArray)) (ws : List (Int × Int)) (B : Nat) (w : World)
    (h : PollB w B A n hs A1 n1 is A2 n2 ls A3 n3 ws) (hB : B ≤ w.heap.size) (hs' : PollS hs is ls ws) :
    Calls Try.prog 26 #[.agg #[.slice A n c, .int .i64 now, .slice A1 n1 c1, .int .i64 far, .slice A2 n2 c2, .slice A3 n3 c3]] w fun e w' => e = .returned (.bool (isFairA (hs.map vdat) now is far ls ws)) ∧ Below w.heap.size w w' := by
  have hb0 := below1 w (.cells #[.slice A n c, .int .i64 now, .slice A1 n1 c1, .int .i64 far, .slice A2 n2 c2, .slice A3 n3 c3] 38)
  have hk0 := heap_alloc_new w (.cells #[.slice A n c, .int .i64 now, .slice A1 n1 c1, .int .i64 far, .slice A2 n2 c2, .slice A3 n3 c3] 38)
  have HG := Lib.hid (fun W (hW : Below w.heap.size w W) => l8Good_any A A1 A2 A3 n c n1 c1 n2 c2 n3 c3 now far hs is ls ws B W (h.below (hW.mono hB)) (Nat.le_trans hB hW.size) hs')
  have hn3b : n3 ≤ 1048576 := by rw [← h.2.2.2.1]; exact hs'.2.2.2
  have HS := Lib.hid h.2.2.2.2.2.2.2
  have HN3 := Lib.hid h.2.2.2.1
  obtain ⟨p, hp⟩ : ∃ p, p = pollB (hs.map vdat) now is far ls ws := ⟨_, rfl⟩
  obtain ⟨res, hres⟩ : ∃ a, a = isFairA (hs.map vdat) now is far ls ws := ⟨_, rfl⟩
  rw [← hres]
  unfold isFairA at hres
  rw [← hp, fair_eq, h.2.2.2.1] at hres
  rw [← hp] at HG
  have HRES := Lib.hid hres
  have HB0 := Lib.hid hb0
  have HK0 := Lib.hid hk0
  have hgl := lt_blk hk0
  clear h hs' hp hres hb0 hk0
  go_enter Try.func26, Try.ntmps26
  go_wp2_with fail
  obtain ⟨W0, hW0⟩ : ∃ W0, W0 = w.alloc (.cells #[.slice A n c, .int .i64 now, .slice A1 n1 c1, .int .i64 far, .slice A2 n2 c2, .slice A3 n3 c3] 38) := ⟨_, rfl⟩
  rw [← hW0] at HB0 HK0 hgl ⊢
  clear hW0
  have HT0 := Lib.hid (show fairTo ws 0 = true from rfl)
  go_loopw [3] (fun i wr => ∃ k : Nat, k ≤ n3 ∧ i = .int .i64 k ∧ Hid (fairTo ws k = true) ∧ Below W0.heap.size W0 wr) (fun i _ => n3 - (intOf i).toNat)
  case atStart => exact ⟨0, by omega, rfl, HT0, Below.refl _ _⟩
  case round =>
    clear HT0
    obtain ⟨k, hk, rfl, HP, hb⟩ := hrel
    have hkr := (hb.block w.heap.size hgl).trans HK0.out
    have k5 := cell_of_row _ _ 5 _ 38 (0, 0) hkr
    have hgr := lt_blk hkr
    by_cases hlt : k < n3
    · have hk0 : (0 : Int) ≤ (k : Int) := by omega
      have hkn : (k : Int) < (n3 : Int) := by omega
      have hkl : k < ws.length := by rw [HN3.out]; exact hlt
      have HB := Lib.hid hb
      have HKR := Lib.hid hkr
      obtain ⟨wo, hwo⟩ : ∃ wo, wo = wr := ⟨_, rfl⟩
      rw [← hwo] at HB HKR hgr k5 ⊢
      have HR0 := Lib.hid (show fairRow ws k 0 = true from rfl)
      clear hb hkr hwo
      go_wp2_with fail
      go_loopw [4] (fun j wr => ∃ q : Nat, q ≤ k ∧ j = .int .i64 q ∧ Hid (fairRow ws k q = true) ∧ Below wo.heap.size wo wr) (fun j _ => k - (intOf j).toNat)
      case atStart => exact ⟨0, by omega, rfl, HR0, Below.refl _ _⟩
      case round =>
        clear HR0
        obtain ⟨q, hq, rfl, HRR, hb⟩ := hrel
        have hkq := (hb.block w.heap.size hgr).trans HKR.out
        have q5 := cell_of_row _ _ 5 _ 38 (0, 0) hkq
        have HBW := Lib.hid (HB0.out.trans ((HB.out.trans (hb.mono HB.out.size)).mono HB0.out.size))
        by_cases hlq : q < k
        · obtain ⟨b, off, rfl, hbB, hc⟩ := HS.out.get (by omega)
          obtain ⟨hc0, hc1⟩ := hc k hkl
          obtain ⟨hd0, hd1⟩ := hc q (by omega)
          have p0 := (HBW.out.cell (p := ⟨b, off + k * 2, none⟩) (Nat.lt_of_lt_of_le hbB hB)).trans hc0
          have p1 := (HBW.out.cell (p := ⟨b, off + k * 2 + 1, none⟩) (Nat.lt_of_lt_of_le hbB hB)).trans hc1
          have r0 := (HBW.out.cell (p := ⟨b, off + q * 2, none⟩) (Nat.lt_of_lt_of_le hbB hB)).trans hd0
          have r1 := (HBW.out.cell (p := ⟨b, off + q * 2 + 1, none⟩) (Nat.lt_of_lt_of_le hbB hB)).trans hd1
          have HFA := Lib.hid (fairAt_get ws k q hkl (by omega))
          obtain ⟨y, hy⟩ : ∃ y, y = ws[k]'hkl := ⟨_, rfl⟩
          obtain ⟨z, hz⟩ : ∃ z, z = ws[q]'(by omega) := ⟨_, rfl⟩
          rw [← hy] at p0 p1 HFA
          rw [← hz] at r0 r1 HFA
          obtain ⟨x1, x2⟩ := y
          obtain ⟨z1, z2⟩ := z
          simp only at p0 p1 r0 r1 HFA
          have hq0 : (0 : Int) ≤ (q : Int) := by omega
          have hqn : (q : Int) < (n3 : Int) := by omega
          have hqk : (q : Int) < (k : Int) := by omega
          have HBQ := Lib.hid hb
          clear hc hc0 hc1 hd0 hd1 hy hz hb hkq k5
          by_cases he : x1 = z1 ∧ ¬ x2 = z2
          · obtain ⟨he1, he2⟩ := he
            subst he1
            have hbq : (x2 != z2) = true := by simp [he2]
            have HX := Lib.hid (ret_bool (show false = res by
              have h1 : fairAt ws k q = false := by rw [HFA.out]; exact decide_eq_false (fun h => he2 (h rfl))
              have h2 := fairTo_no ws k n3 hlt (fairRow_no ws k q k hlq h1)
              rw [HRES.out, h2]; simp))
            go_wp2_with fail
            go_quiet (fail)
            go_wp2
            go_ret
            exact ⟨HX.out, below_drewN HBW.out _⟩
          · have HRN := Lib.hid (show fairRow ws k (q + 1) = true by
              rw [fairRow_succ, HRR.out, HFA.out, Bool.true_and, decide_eq_true_eq]
              intro h1
              by_cases h2 : x2 = z2
              · exact h2
              · exact absurd ⟨h1, h2⟩ he)
            by_cases he1 : x1 = z1
            · have he2 : x2 = z2 := by
                by_cases h2 : x2 = z2
                · exact h2
                · exact absurd ⟨he1, h2⟩ he
              subst he1
              subst he2
              clear he
              go_wp2_with fail
              go_quiet (fail)
              go_wp2
              go_roundw
              case rel => exact ⟨q + 1, by omega, by go_num, HRN, below_drewN HBQ.out _⟩
              case measure => simp [intOf]; omega
            · have hb1 : (x1 == z1) = false := beq_eq_false_iff_ne.2 he1
              clear he
              go_wp2_with fail
              go_quiet (fail)
              go_wp2
              go_roundw
              case rel => exact ⟨q + 1, by omega, by go_num, HRN, below_drewN HBQ.out _⟩
              case measure => simp [intOf]; omega
        · have hqk : q = k := by omega
          subst hqk
          have HPN := Lib.hid (show fairTo ws (q + 1) = true by rw [fairTo_succ, HP.out, HRR.out]; rfl)
          have HB5 := Lib.hid (HB.out.trans (hb.mono HB.out.size))
          clear hb hkq
          go_wp2
          go_roundw
          case rel => exact ⟨q + 1, by omega, by go_num, HPN, HB5.out⟩
          case measure => simp [intOf]; omega
    · have hkn : k = n3 := by omega
      subst hkn
      have HBW := Lib.hid (HB0.out.trans (hb.mono HB0.out.size))
      have hx : p = res := by rw [HRES.out, HP.out, Bool.and_true]
      subst hx
      have k0 := cell_of_row _ _ 0 _ 38 (0, 0) hkr
      have k1 := cell_of_row _ _ 1 _ 38 (0, 0) hkr
      have k2 := cell_of_row _ _ 2 _ 38 (0, 0) hkr
      have k3 := cell_of_row _ _ 3 _ 38 (0, 0) hkr
      have k4 := cell_of_row _ _ 4 _ 38 (0, 0) hkr
      clear hb hkr HP
      go_wp2_with fail
      refine (HG.out _ HBW.out).mono ?_
      rintro e w1 ⟨rfl, ha1⟩
      have HB1 := Lib.hid (HBW.out.trans (ha1.mono HBW.out.size))
      clear ha1
      go_wp2
      go_ret
      exact ⟨rfl, HB1.out⟩
end Go.Proofs.Ytojplmjoipjabaa.Po
