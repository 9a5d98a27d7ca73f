/-
  Contracts for the checks of a list of keys: goodKeys of the program, l4Keys of the model.
-/
import Derived.Test.YtkhndofplebcaaaStr
import Derived.Test.YtkhndofplebcaaaGoodW
namespace Go.Proofs.Ytkhndofplebcaaa
open Go.RowKit CM
set_option linter.unusedVariables false

/-- Keys that rise. -/
def kuB (ks : List ByteArray) : Bool := ks.all keyB && upB kLt ks
def ksB (ks : List ByteArray) : Bool := kuB ks && decide (ks.length ≤ 8)
theorem kuB_mk {ks : List ByteArray} (h : PreB keyB kLt ks ks.length) : kuB ks = true := by
  obtain ⟨h1, h2⟩ := h.all (Nat.le_refl _)
  simp [kuB, h1, h2]
theorem kuB_item {ks : List ByteArray} (k : Nat) (hk : k < ks.length) (h : keyB ks[k] = false) : kuB ks = false := by
  simp only [kuB, all_bad _ ks k hk h, Bool.false_and]
theorem kuB_up {ks : List ByteArray} (k : Nat) (hk : k < ks.length) (h0 : 0 < k) (h : kLt (ks[k - 1]'(by omega)) ks[k] = false) : kuB ks = false := by
  simp only [kuB, up_bad (lt := kLt) hk h0 h, Bool.and_false]
theorem ksB_ku {ks : List ByteArray} (h : kuB ks = false) : ksB ks = false := by simp [ksB, h]

set_option maxRecDepth 100000 in
set_option maxHeartbeats 1000000 in
theorem goodKeys_any (A : Option Addr) (n c : Nat) (ks : List ByteArray) (B : Nat) (w : World) (hn : ks.length = n) (h : StrsB w B A ks) (hB : B ≤ w.heap.size) (hm : SSmall ks) :
    Calls Try.prog 164 #[.slice A n c] w fun e w' => e = .returned (.bool (kuB ks)) ∧ Below w.heap.size w w' := by
  obtain ⟨hl, hms⟩ := hm
  have HN := Lib.hid hn
  have hge := Nat.le_of_eq hn
  have hle := Nat.le_of_eq hn.symm
  have HS := Lib.hid h
  have HM := Lib.hid hms
  clear hn h hms
  go_enter Try.func164, Try.ntmps164
  go_wp2
  go_loopw [7] (fun i wr => ∃ k : Nat, k ≤ n ∧ i = .int .i64 k ∧ Hid (PreB keyB kLt ks k) ∧ Below w.heap.size w wr) (fun i _ => n - (intOf i).toNat)
  case atStart => exact ⟨0, by omega, rfl, PreB.zero, Below.refl _ _⟩
  case round =>
    obtain ⟨k, hk, rfl, HP, hb⟩ := hrel
    by_cases hlt : k < n
    · obtain ⟨b, off, rfl, hbB, hc⟩ := HS.out.get (by omega)
      have HAll := Lib.hid hc
      have c0 := (hb.cell (p := ⟨b, off + k, none⟩) (Nat.lt_of_lt_of_le hbB hB)).trans (hc k (by omega))
      have hsm := HM.out _ (List.getElem_mem (show k < ks.length by omega))
      obtain ⟨y, hy⟩ : ∃ y, y = ks[k]'(by omega) := ⟨_, rfl⟩
      rw [← hy] at c0 hsm
      have HY := Lib.hid hy
      have HB := Lib.hid hb
      have HK := Lib.hid (fun W => goodKey_any y W hsm)
      clear hc hy hb hsm
      cases h1 : keyB y with
      | false =>
        rw [h1] at HK
        have HNO := Lib.hid (ret_bool (kuB_item k (show k < ks.length by omega) (by rw [← HY.out]; exact h1)).symm)
        clear h1
        go_wp2_with fail
        refine (HK.out _).mono ?_
        rintro e w4 ⟨rfl, rfl⟩
        go_wp2
        go_ret
        exact ⟨HNO.out, HB.out⟩
      | true =>
        rw [h1] at HK
        have HIt := Lib.hid (show keyB (ks[k]'(by omega)) = true by rw [← HY.out]; exact h1)
        clear h1
        rcases Nat.eq_zero_or_pos k with h0 | h0
        · subst h0
          simp only [Nat.add_zero] at c0
          have HP' := Lib.hid (HP.out.succ (show 0 < ks.length by omega) HIt.out (fun h0 => by omega))
          go_wp2_with fail
          refine (HK.out _).mono ?_
          rintro e w4 ⟨rfl, rfl⟩
          go_wp2
          go_roundw
          case rel => exact ⟨1, by omega, by go_num, HP'.out, HB.out⟩
          case measure => simp [intOf]; omega
        · obtain ⟨q, rfl⟩ : ∃ q, k = q + 1 := ⟨k - 1, by omega⟩
          have hd0 := (HB.out.cell (p := ⟨b, off + q, none⟩) (Nat.lt_of_lt_of_le hbB hB)).trans (HAll.out q (by omega))
          obtain ⟨x, hx⟩ : ∃ x, x = (ks[q]'(by omega)) := ⟨_, rfl⟩
          rw [← hx] at hd0
          have HX := Lib.hid hx
          have hq0 : (0 : Int) ≤ (q : Int) := by omega
          have hqn : (q : Int) < (n : Int) := by omega
          have hpos : decide ((0 : Int) < (q : Int) + 1) = true := decide_eq_true (by omega)
          clear hx h0
          cases h2 : kLt x y with
          | false =>
            have HNO := Lib.hid (ret_bool (kuB_up (q + 1) (show q + 1 < ks.length by omega) (by omega) (by simp only [Nat.add_sub_cancel]; rw [← HX.out, ← HY.out]; exact h2)).symm)
            have hcm := cmp_no h2
            clear h2
            rcases hcm with hcm | hcm
            · go_wp2_with fail
              refine (HK.out _).mono ?_
              rintro e w4 ⟨rfl, rfl⟩
              go_wp2
              go_ret
              exact ⟨HNO.out, HB.out⟩
            · subst hcm
              go_wp2_with fail
              refine (HK.out _).mono ?_
              rintro e w4 ⟨rfl, rfl⟩
              go_wp2
              go_ret
              exact ⟨HNO.out, HB.out⟩
          | true =>
            have HP' := Lib.hid (HP.out.succ (show q + 1 < ks.length by omega) HIt.out (fun h0 => by simp only [Nat.add_sub_cancel]; rw [← HX.out, ← HY.out]; exact h2))
            obtain ⟨hca, hcb⟩ := cmp_up h2
            clear h2
            go_wp2_with fail
            refine (HK.out _).mono ?_
            rintro e w4 ⟨rfl, rfl⟩
            go_wp2
            go_roundw
            case rel => exact ⟨q + 1 + 1, by omega, by go_num, HP'.out, HB.out⟩
            case measure => simp [intOf]; omega
    · have hkn : k = n := by omega
      have HYES := Lib.hid (ret_bool (kuB_mk (by rw [HN.out, ← hkn]; exact HP.out)).symm)
      clear hkn
      go_wp2
      go_ret
      exact ⟨HYES.out, hb⟩

set_option maxRecDepth 100000 in
set_option maxHeartbeats 1000000 in
theorem l4Keys_any (A : Option Addr) (n c : Nat) (ks : List ByteArray) (B : Nat) (w : World) (hn : ks.length = n) (h : StrsB w B A ks) (hB : B ≤ w.heap.size) (hm : SSmall ks) :
    Calls Try.prog 82 #[.slice A n c] w fun e w' => e = .returned (.bool (ksB ks)) ∧ Below w.heap.size w w' := by
  obtain ⟨hl, hms⟩ := hm
  have HN := Lib.hid hn
  have hge := Nat.le_of_eq hn
  have hle := Nat.le_of_eq hn.symm
  have HS := Lib.hid h
  have HM := Lib.hid hms
  clear hn h hms
  go_enter Try.func82, Try.ntmps82
  go_wp2
  go_loopw [7] (fun i wr => ∃ k : Nat, k ≤ n ∧ i = .int .i64 k ∧ Hid (PreB keyB kLt ks k) ∧ Below w.heap.size w wr) (fun i _ => n - (intOf i).toNat)
  case atStart => exact ⟨0, by omega, rfl, PreB.zero, Below.refl _ _⟩
  case round =>
    obtain ⟨k, hk, rfl, HP, hb⟩ := hrel
    by_cases hlt : k < n
    · obtain ⟨b, off, rfl, hbB, hc⟩ := HS.out.get (by omega)
      have HAll := Lib.hid hc
      have c0 := (hb.cell (p := ⟨b, off + k, none⟩) (Nat.lt_of_lt_of_le hbB hB)).trans (hc k (by omega))
      have hsm := HM.out _ (List.getElem_mem (show k < ks.length by omega))
      obtain ⟨y, hy⟩ : ∃ y, y = ks[k]'(by omega) := ⟨_, rfl⟩
      rw [← hy] at c0 hsm
      have HY := Lib.hid hy
      have HB := Lib.hid hb
      have HK := Lib.hid (fun W => l3Key_any y W hsm)
      clear hc hy hb hsm
      cases h1 : keyB y with
      | false =>
        rw [h1] at HK
        have HNO := Lib.hid (ret_bool (ksB_ku (kuB_item k (show k < ks.length by omega) (by rw [← HY.out]; exact h1))).symm)
        clear h1
        go_wp2_with fail
        refine (HK.out _).mono ?_
        rintro e w4 ⟨rfl, nd, rfl⟩
        go_wp2
        go_ret
        exact ⟨HNO.out, below_drewN HB.out _⟩
      | true =>
        rw [h1] at HK
        have HIt := Lib.hid (show keyB (ks[k]'(by omega)) = true by rw [← HY.out]; exact h1)
        clear h1
        rcases Nat.eq_zero_or_pos k with h0 | h0
        · subst h0
          simp only [Nat.add_zero] at c0
          have HP' := Lib.hid (HP.out.succ (show 0 < ks.length by omega) HIt.out (fun h0 => by omega))
          go_wp2_with fail
          refine (HK.out _).mono ?_
          rintro e w4 ⟨rfl, nd, rfl⟩
          go_wp2
          go_roundw
          case rel => exact ⟨1, by omega, by go_num, HP'.out, below_drewN HB.out _⟩
          case measure => simp [intOf]; omega
        · obtain ⟨q, rfl⟩ : ∃ q, k = q + 1 := ⟨k - 1, by omega⟩
          have hd0 := (HB.out.cell (p := ⟨b, off + q, none⟩) (Nat.lt_of_lt_of_le hbB hB)).trans (HAll.out q (by omega))
          obtain ⟨x, hx⟩ : ∃ x, x = (ks[q]'(by omega)) := ⟨_, rfl⟩
          rw [← hx] at hd0
          have HX := Lib.hid hx
          have hq0 : (0 : Int) ≤ (q : Int) := by omega
          have hqn : (q : Int) < (n : Int) := by omega
          have hpos : decide ((0 : Int) < (q : Int) + 1) = true := decide_eq_true (by omega)
          clear hx h0
          cases h2 : kLt x y with
          | false =>
            have HNO := Lib.hid (ret_bool (ksB_ku (kuB_up (q + 1) (show q + 1 < ks.length by omega) (by omega) (by simp only [Nat.add_sub_cancel]; rw [← HX.out, ← HY.out]; exact h2))).symm)
            have h3 : Op.bytesLess x.toList y.toList = false := h2
            clear h2
            go_wp2_with fail
            refine (HK.out _).mono ?_
            rintro e w4 ⟨rfl, nd, rfl⟩
            go_wp2
            go_ret
            exact ⟨HNO.out, below_drewN HB.out _⟩
          | true =>
            have HP' := Lib.hid (HP.out.succ (show q + 1 < ks.length by omega) HIt.out (fun h0 => by simp only [Nat.add_sub_cancel]; rw [← HX.out, ← HY.out]; exact h2))
            have h3 : Op.bytesLess x.toList y.toList = true := h2
            clear h2
            go_wp2_with fail
            refine (HK.out _).mono ?_
            rintro e w4 ⟨rfl, nd, rfl⟩
            go_wp2
            go_roundw
            case rel => exact ⟨q + 1 + 1, by omega, by go_num, HP'.out, below_drewN HB.out _⟩
            case measure => simp [intOf]; omega
    · have hkn : k = n := by omega
      have hku := kuB_mk (ks := ks) (by rw [HN.out, ← hkn]; exact HP.out)
      by_cases h8 : k ≤ 8
      · have HYES := Lib.hid (ret_bool (show true = ksB ks by unfold ksB; rw [hku, HN.out, ← hkn]; simp [h8]))
        have hd : decide ((n : Int) ≤ 8) = true := decide_eq_true (by omega)
        clear hkn hku
        go_wp2
        go_ret
        exact ⟨HYES.out, hb⟩
      · have HNO := Lib.hid (ret_bool (show false = ksB ks by unfold ksB; rw [hku, HN.out, ← hkn]; simp; omega))
        have hd : decide ((n : Int) ≤ 8) = false := decide_eq_false (by omega)
        clear hkn hku
        go_wp2
        go_ret
        exact ⟨HNO.out, hb⟩
end Go.Proofs.Ytkhndofplebcaaa
