/-
  Contracts for the check of writes: GoodWrites and l3Writes.
-/
import Derived.Test.YtkhndofplebcaaaCont
import Derived.Test.YtkhndofplebcaaaMem
namespace Go.Proofs.Ytkhndofplebcaaa
open Go.RowKit CM
set_option linter.unusedVariables false

theorem cmp_up {a b : ByteArray} (h : kLt a b = true) : Op.bytesLess b.toList a.toList = false ∧ (b.toList == a.toList) = false :=
  ⟨kLt_asymm h, beq_eq_false_iff_ne.2 fun e => kLt_ne h (list_inj e).symm⟩
theorem cmp_no {a b : ByteArray} (h : kLt a b = false) : Op.bytesLess b.toList a.toList = true ∨ b = a := by
  by_cases e : b = a
  · exact .inr e
  · exact .inl (kLt_total (fun e' => e e'.symm) h)
theorem empty_lt {s : ByteArray} (h : keyB s = true) : kLt ⟨#[]⟩ s = true := by
  unfold kLt
  simp only [keyB, Bool.and_eq_true, decide_eq_true_eq] at h
  have h1 : s.toList.length = s.size := by rw [Lib.toList_data, ← Lib.size_eq]
  have h2 : (⟨#[]⟩ : ByteArray).toList = [] := empty_list
  rw [h2]
  cases e : s.toList with
  | nil => rw [e] at h1; simp at h1; omega
  | cons a l => simp [Op.bytesLess]

/-- The key before place k of a list of keys. -/
def BfIs (ks : List ByteArray) (k : Nat) (v : Value) : Prop := ∃ bf, v = .string bf ∧ ((k = 0 ∧ bf = ⟨#[]⟩) ∨ ∃ h : 0 < k ∧ k ≤ ks.length, bf = ks[k - 1]'(by omega))
theorem BfIs.zero (ks : List ByteArray) : BfIs ks 0 (.string ⟨#[]⟩) := ⟨_, rfl, .inl ⟨rfl, rfl⟩⟩
theorem BfIs.succ {ks : List ByteArray} {k : Nat} {s : ByteArray} (hk : k < ks.length) (h : s = ks[k]) : BfIs ks (k + 1) (.string s) := ⟨s, rfl, .inr ⟨⟨by omega, by omega⟩, by simp only [Nat.add_sub_cancel]; exact h⟩⟩

set_option maxRecDepth 100000 in
set_option maxHeartbeats 1000000 in
theorem goodWrites_any (A : Option Addr) (n c : Nat) (ws : List (ByteArray × ByteArray × Bool)) (B : Nat) (w : World) (hn : ws.length = n) (h : WritesB w B A ws) (hB : B ≤ w.heap.size) (hm : WSmall ws) :
    Calls Try.prog 165 #[.slice A n c] w fun e w' => e = .returned (.bool (wB ws)) ∧ Below w.heap.size w w' := by
  obtain ⟨hl, hms⟩ := hm
  have HN := Lib.hid hn
  have hge := Nat.le_of_eq hn
  have hle := Nat.le_of_eq hn.symm
  have HS := Lib.hid h
  have HM := Lib.hid hms
  clear hn h hms
  by_cases h24 : n ≤ 24
  · go_enter Try.func165, Try.ntmps165
    go_wp2
    go_loopw [3, 11] (fun v i wr => ∃ k : Nat, k ≤ n ∧ i = .int .i64 k ∧ BfIs (ws.map Prod.fst) k v ∧ Hid (PreB (writeB keyB valB) wLt ws k) ∧ Below w.heap.size w wr) (fun _ i _ => n - (intOf i).toNat)
    case atStart => exact ⟨0, by omega, rfl, BfIs.zero _, PreB.zero, Below.refl _ _⟩
    case round =>
      obtain ⟨k, hk, rfl, ⟨bf, rfl, hbf⟩, HP, hb⟩ := hrel
      have HBf := Lib.hid hbf
      clear hbf
      by_cases hlt : k < n
      · obtain ⟨b, off, rfl, hbB, hc⟩ := HS.out.get (by omega)
        obtain ⟨hc0, hc1, hc2⟩ := hc k (by omega)
        have c0 := (hb.cell (p := ⟨b, off + k * 3, none⟩) (Nat.lt_of_lt_of_le hbB hB)).trans hc0
        have c1 := (hb.cell (p := ⟨b, off + k * 3 + 1, none⟩) (Nat.lt_of_lt_of_le hbB hB)).trans hc1
        have c2 := (hb.cell (p := ⟨b, off + k * 3 + 2, none⟩) (Nat.lt_of_lt_of_le hbB hB)).trans hc2
        have hsm := HM.out _ (List.getElem_mem (show k < ws.length by omega))
        obtain ⟨y, hy⟩ : ∃ y, y = ws[k]'(by omega) := ⟨_, rfl⟩
        rw [← hy] at c0 c1 c2 hsm
        have HY := Lib.hid hy
        obtain ⟨s1, s2, gb⟩ := y
        simp only at c0 c1 c2 hsm
        have HB := Lib.hid hb
        have HK := Lib.hid (fun W => goodKey_any s1 W hsm.1)
        have HCt := Lib.hid (fun W => goodContent_any s2 gb W hsm.2)
        clear hc hc0 hc1 hc2 hy hb hsm
        cases h1 : keyB s1 with
        | false =>
          rw [h1] at HK
          have HNO := Lib.hid (ret_bool (wB_item k (show k < ws.length by omega) (by rw [← HY.out, writeB_eq]; simp [h1])).symm)
          clear h1
          go_wp2_with fail
          refine (HK.out _).mono ?_
          rintro e w4 ⟨rfl, rfl⟩
          go_wp2
          go_ret
          exact ⟨HNO.out, HB.out.alloc HB.out.size _⟩
        | true =>
          rw [h1] at HK
          have HK1 := Lib.hid h1
          clear h1
          go_wp2_with fail
          refine (HK.out _).mono ?_
          rintro e w4 ⟨rfl, rfl⟩
          have hw1 := below1 wr (.cells #[.string s1, .string s2, .bool gb] 121)
          have HB1 := Lib.hid (HB.out.trans (hw1.mono HB.out.size))
          clear hw1
          cases h2 : kLt bf s1 with
          | false =>
            have hno : wB ws = false := by
              rcases HBf.out with ⟨hk0, hbf⟩ | ⟨⟨hk0, _⟩, hbf⟩
              · rw [hbf, empty_lt HK1.out] at h2; cases h2
              · rw [List.getElem_map] at hbf
                exact wB_up k (show k < ws.length by omega) hk0 (by rw [← hbf, ← HY.out]; exact h2)
            have HNO := Lib.hid (ret_bool hno.symm)
            have hcm := cmp_no h2
            clear hno h2
            rcases hcm with hcm | hcm
            · go_wp2
              go_ret
              exact ⟨HNO.out, HB1.out⟩
            · subst hcm
              go_wp2
              go_ret
              exact ⟨HNO.out, HB1.out⟩
          | true =>
            obtain ⟨hca, hcb⟩ := cmp_up h2
            have HL := Lib.hid h2
            clear h2
            cases h3 : contB s2 gb with
            | false =>
              rw [h3] at HCt
              have HNO := Lib.hid (ret_bool (wB_item k (show k < ws.length by omega) (by rw [← HY.out, writeB_eq]; simp [h3])).symm)
              clear h3
              go_wp2_with fail
              refine (HCt.out _).mono ?_
              rintro e w4 ⟨rfl, rfl⟩
              go_wp2
              go_ret
              exact ⟨HNO.out, HB1.out⟩
            | true =>
              rw [h3] at HCt
              have HP' := Lib.hid (HP.out.succ (show k < ws.length by omega) (by rw [← HY.out, writeB_eq]; simp [HK1.out, h3]) (fun h0 => by
                rcases HBf.out with ⟨hk0, _⟩ | ⟨⟨_, _⟩, hbf⟩
                · omega
                · rw [List.getElem_map] at hbf
                  unfold wLt; rw [← hbf, ← HY.out]; exact HL.out))
              have HBf' := Lib.hid (BfIs.succ (ks := ws.map Prod.fst) (k := k) (s := s1) (by rw [List.length_map]; omega) (by rw [List.getElem_map, ← HY.out]))
              clear h3
              go_wp2_with fail
              refine (HCt.out _).mono ?_
              rintro e w4 ⟨rfl, rfl⟩
              go_wp2
              go_roundw
              case rel => exact ⟨k + 1, by omega, by go_num, HBf'.out, HP'.out, HB1.out⟩
              case measure => simp [intOf]; omega
      · have hkn : k = n := by omega
        have HYES := Lib.hid (ret_bool (wB_mk (by rw [HN.out, ← hkn]; exact HP.out) (by omega)).symm)
        clear hkn
        go_wp2
        go_ret
        exact ⟨HYES.out, hb⟩
  · have HNO := Lib.hid (ret_bool (wB_long (ws := ws) (by omega)).symm)
    go_enter Try.func165, Try.ntmps165
    go_wp2
    go_ret
    exact ⟨HNO.out, Below.refl _ _⟩

set_option maxRecDepth 100000 in
set_option maxHeartbeats 1000000 in
theorem l3Writes_any (A : Option Addr) (n c : Nat) (ws : List (ByteArray × ByteArray × Bool)) (B : Nat) (w : World) (hn : ws.length = n) (h : WritesB w B A ws) (hB : B ≤ w.heap.size) (hm : WSmall ws) :
    Calls Try.prog 83 #[.slice A n c] w fun e w' => e = .returned (.bool (wB ws)) ∧ Below w.heap.size w w' := by
  obtain ⟨hl, hms⟩ := hm
  have HN := Lib.hid hn
  have hge := Nat.le_of_eq hn
  have hle := Nat.le_of_eq hn.symm
  have HS := Lib.hid h
  have HM := Lib.hid hms
  clear hn h hms
  go_enter Try.func83, Try.ntmps83
  go_wp2
  go_loopw [7] (fun i wr => ∃ k : Nat, k ≤ n ∧ i = .int .i64 k ∧ Hid (PreB (writeB keyB valB) wLt ws k) ∧ Below w.heap.size w wr) (fun i _ => n - (intOf i).toNat)
  case atStart => exact ⟨0, by omega, rfl, PreB.zero, Below.refl _ _⟩
  case round =>
    obtain ⟨k, hk, rfl, HP, hb⟩ := hrel
    by_cases hlt : k < n
    · obtain ⟨b, off, rfl, hbB, hc⟩ := HS.out.get (by omega)
      have HAll := Lib.hid hc
      obtain ⟨hc0, hc1, hc2⟩ := hc k (by omega)
      have c0 := (hb.cell (p := ⟨b, off + k * 3, none⟩) (Nat.lt_of_lt_of_le hbB hB)).trans hc0
      have c1 := (hb.cell (p := ⟨b, off + k * 3 + 1, none⟩) (Nat.lt_of_lt_of_le hbB hB)).trans hc1
      have c2 := (hb.cell (p := ⟨b, off + k * 3 + 2, none⟩) (Nat.lt_of_lt_of_le hbB hB)).trans hc2
      have hsm := HM.out _ (List.getElem_mem (show k < ws.length by omega))
      obtain ⟨y, hy⟩ : ∃ y, y = ws[k]'(by omega) := ⟨_, rfl⟩
      rw [← hy] at c0 c1 c2 hsm
      have HY := Lib.hid hy
      obtain ⟨s1, s2, gb⟩ := y
      simp only at c0 c1 c2 hsm
      have hbs : b < wr.heap.size := Nat.lt_of_lt_of_le hbB (Nat.le_trans hB hb.size)
      have HB := Lib.hid hb
      have HW := Lib.hid (fun W => l3Write_any s1 s2 gb W hsm.1 hsm.2)
      have hw1 := below1 wr (.cells #[.string s1, .string s2, .bool gb] 121)
      have HB1 := Lib.hid (HB.out.trans (hw1.mono HB.out.size))
      clear hc hc0 hc1 hc2 hy hb hsm hw1
      cases h1 : wrB s1 s2 gb with
      | false =>
        rw [h1] at HW
        have HNO := Lib.hid (ret_bool (wB_item k (show k < ws.length by omega) (by rw [← HY.out, writeB_eq]; exact h1)).symm)
        clear h1
        go_wp2_with fail
        go_quiet ((go_at_call 127; exact Calls.quiet_of (HW.out _)))
        go_wp2
        go_ret
        exact ⟨HNO.out, below_drewN HB1.out _⟩
      | true =>
        rw [h1] at HW
        have HIt := Lib.hid (show writeB keyB valB (ws[k]'(by omega)) = true by rw [← HY.out, writeB_eq]; exact h1)
        clear h1
        rcases Nat.eq_zero_or_pos k with h0 | h0
        · subst h0
          simp only [Nat.zero_mul, Nat.add_zero] at c0 c1 c2
          have HP' := Lib.hid (HP.out.succ (show 0 < ws.length by omega) HIt.out (fun h0 => by omega))
          go_wp2_with fail
          go_quiet ((go_at_call 127; exact Calls.quiet_of (HW.out _)))
          go_wp2
          go_roundw
          case rel => exact ⟨1, by omega, by go_num, HP'.out, below_drewN HB1.out _⟩
          case measure => simp [intOf]; omega
        · obtain ⟨q, rfl⟩ : ∃ q, k = q + 1 := ⟨k - 1, by omega⟩
          have hd0 := (HB.out.cell (p := ⟨b, off + q * 3, none⟩) (Nat.lt_of_lt_of_le hbB hB)).trans (HAll.out q (by omega)).1
          obtain ⟨x, hx⟩ : ∃ x, x = (ws[q]'(by omega)).1 := ⟨_, rfl⟩
          rw [← hx] at hd0
          have HX := Lib.hid hx
          have hq0 : (0 : Int) ≤ (q : Int) := by omega
          have hqn : (q : Int) < (n : Int) := by omega
          have hpos : decide ((0 : Int) < (q : Int) + 1) = true := decide_eq_true (by omega)
          clear hx h0
          cases h2 : kLt x s1 with
          | false =>
            have HNO := Lib.hid (ret_bool (wB_up (q + 1) (show q + 1 < ws.length by omega) (by omega) (by simp only [Nat.add_sub_cancel]; rw [← HX.out, ← HY.out]; exact h2)).symm)
            have h3 : Op.bytesLess x.toList s1.toList = false := h2
            clear h2
            go_wp2_with fail
            go_quiet ((go_at_call 127; exact Calls.quiet_of (HW.out _)))
            go_wp2
            go_ret
            exact ⟨HNO.out, below_drewN HB1.out _⟩
          | true =>
            have HP' := Lib.hid (HP.out.succ (show q + 1 < ws.length by omega) HIt.out (fun h0 => by simp only [Nat.add_sub_cancel]; unfold wLt; rw [← HX.out, ← HY.out]; exact h2))
            have h3 : Op.bytesLess x.toList s1.toList = true := h2
            clear h2
            go_wp2_with fail
            go_quiet ((go_at_call 127; exact Calls.quiet_of (HW.out _)))
            go_wp2
            go_roundw
            case rel => exact ⟨q + 1 + 1, by omega, by go_num, HP'.out, below_drewN HB1.out _⟩
            case measure => simp [intOf]; omega
    · have hkn : k = n := by omega
      subst hkn
      have hend := HP.out.all (by omega)
      by_cases h24 : k ≤ 24
      · have HYES := Lib.hid (ret_bool (wB_mk (by rw [HN.out]; exact HP.out) (by omega)).symm)
        have hd : decide ((k : Int) ≤ 24) = true := decide_eq_true (by omega)
        go_wp2
        go_ret
        exact ⟨HYES.out, hb⟩
      · have HNO := Lib.hid (ret_bool (wB_long (ws := ws) (by omega)).symm)
        have hd : decide ((k : Int) ≤ 24) = false := decide_eq_false (by omega)
        go_wp2
        go_ret
        exact ⟨HNO.out, hb⟩
end Go.Proofs.Ytkhndofplebcaaa
