/-
  Contracts for the search of a key among writes: compareWriteToKey, slices.BinarySearchFunc, findWrite.
-/
import Derived.Test.YtohkpcgekoipbaaFind
namespace Go.Proofs.Ytohkpcgekoipbaa
open Go.RowKit CM
set_option linter.unusedVariables false

theorem compareWriteToKey_any (k v : ByteArray) (g : Bool) (key : ByteArray) (w : World) :
    Calls Try.prog 87 #[.agg #[.string k, .string v, .bool g], .string key] w fun e w' => e = .returned (.int .i64 (Lib.compareBytes k.data.toList key.data.toList)) ∧ Below w.heap.size w w' := by
  go_enter Try.func87, Try.ntmps87
  go_wp2_with fail
  refine (compare_any _ _ _).mono ?_
  rintro e w4 ⟨rfl, rfl⟩
  go_wp2
  go_ret
  exact ⟨rfl, below1 _ _⟩
/-- Keys of rising writes rise. -/
theorem keysW_lt {hs : List (ByteArray × ByteArray × Bool)} (hup : upB wLt hs = true) {i j : Nat} (hij : i < j) (hj : j < hs.length) : kLt (hs[i]'(by omega)).1 hs[j].1 = true :=
  up_lt wLt wLt_trans hup hij hj

set_option maxRecDepth 100000 in
set_option maxHeartbeats 1000000 in
theorem searchW_any (A : Option Addr) (n c : Nat) (hs : List (ByteArray × ByteArray × Bool)) (key : ByteArray) (B : Nat) (w : World) (hn : hs.length = n) (h : WritesB w B A hs) (hB : B ≤ w.heap.size) (hl : n ≤ 1048576) (hup : upB wLt hs = true) :
    Calls Try.prog 86 #[.slice A n c, .string key, .func (.func 87) #[] #[]] w (FindPost (hs.map Prod.fst) key w) := by
  have HN := Lib.hid hn
  have hge := Nat.le_of_eq hn
  have hle := Nat.le_of_eq hn.symm
  have HS := Lib.hid h
  have HU := Lib.hid hup
  clear hn h hup
  go_enter Try.func86, Try.ntmps86
  go_wp2
  go_loopw [9, 10] (fun i j wr => ∃ p q : Nat, p ≤ q ∧ q ≤ n ∧ i = .int .i64 p ∧ j = .int .i64 q ∧ Hid (∀ s (h : s < hs.length), s < p → kLt (hs[s]'h).1 key = true) ∧ Hid (∀ s (h : s < hs.length), q ≤ s → kLt (hs[s]'h).1 key = false) ∧ Below w.heap.size w wr) (fun i j _ => (intOf j - intOf i).toNat)
  case atStart => exact ⟨0, n, by omega, by omega, rfl, rfl, fun s h h' => absurd h' (by omega), fun s h h' => absurd h' (by omega), Below.refl _ _⟩
  case round =>
    obtain ⟨p, q, hpq, hq, rfl, rfl, HLo, HHi, hb⟩ := hrel
    by_cases hlt : p < q
    · obtain ⟨m, hm⟩ : ∃ m : Nat, m = (p + q) / 2 := ⟨_, rfl⟩
      have hm1 : p ≤ m := by omega
      have hm2 : m < q := by omega
      have hmi : ((p : Int) + (q : Int)) / 2 = (m : Int) := by omega
      obtain ⟨b, off, rfl, hbB, hc⟩ := HS.out.get (by omega)
      obtain ⟨hc0, hc1, hc2⟩ := hc m (by omega)
      have c0 := (hb.cell (p := ⟨b, off + m * 3, none⟩) (Nat.lt_of_lt_of_le hbB hB)).trans hc0
      have c1 := (hb.cell (p := ⟨b, off + m * 3 + 1, none⟩) (Nat.lt_of_lt_of_le hbB hB)).trans hc1
      have c2 := (hb.cell (p := ⟨b, off + m * 3 + 2, none⟩) (Nat.lt_of_lt_of_le hbB hB)).trans hc2
      have hml : m < hs.length := by omega
      have HKL := Lib.hid (fun s (hs' : s < m) => keysW_lt HU.out hs' hml)
      have HKG := Lib.hid (show ∀ s (hs' : m < s) (h : s < hs.length), kLt (hs[m]'hml).1 (hs[s]'h).1 = true from fun s hs' h => keysW_lt HU.out hs' h)
      obtain ⟨y, hy⟩ : ∃ y, y = hs[m]'(by omega) := ⟨_, rfl⟩
      rw [← hy] at c0 c1 c2 HKL HKG
      have HY := Lib.hid hy
      obtain ⟨k, vl, gn⟩ := y
      simp only at c0 c1 c2 HKL HKG
      have HB := Lib.hid hb
      have hmn : (m : Int) < (n : Int) := by omega
      have hm0 : (0 : Int) ≤ (m : Int) := by omega
      clear hc hc0 hc1 hc2 hy hb hm
      cases hv : kLt k key with
      | true =>
        have hz := cmp_neg hv
        have HLo' := Lib.hid (show ∀ s (h : s < hs.length), s < m + 1 → kLt (hs[s]'h).1 key = true from fun s h h' => by
          rcases Nat.lt_or_ge s m with h1 | h1
          · exact kLt_trans (HKL.out s h1) hv
          · obtain rfl : s = m := by omega
            rw [← HY.out]; exact hv)
        obtain ⟨z, hzd⟩ : ∃ z, z = Lib.compareBytes k.data.toList key.data.toList := ⟨_, rfl⟩
        have HC := Lib.hid (fun W => compareWriteToKey_any k vl gn key W)
        rw [← hzd] at hz HC
        clear hv hzd
        go_wp2_with fail
        refine (HC.out _).mono ?_
        rintro e w4 ⟨rfl, hb4⟩
        have HB4 := Lib.hid (HB.out.trans (hb4.mono HB.out.size))
        clear hb4
        go_wp2
        go_roundw
        case rel => exact ⟨m + 1, q, by omega, by omega, by go_num, rfl, HLo'.out, HHi.out, HB4.out⟩
        case measure => simp [intOf]; omega
      | false =>
        have hz := cmp_nonneg hv
        have HHi' := Lib.hid (show ∀ s (h : s < hs.length), m ≤ s → kLt (hs[s]'h).1 key = false from fun s h h' => by
          rcases Nat.lt_or_ge m s with h1 | h1
          · cases e : kLt (hs[s]'h).1 key with
            | false => rfl
            | true => rw [kLt_trans (HKG.out s h1 h) e] at hv; cases hv
          · obtain rfl : s = m := by omega
            rw [← HY.out]; exact hv)
        obtain ⟨z, hzd⟩ : ∃ z, z = Lib.compareBytes k.data.toList key.data.toList := ⟨_, rfl⟩
        have HC := Lib.hid (fun W => compareWriteToKey_any k vl gn key W)
        rw [← hzd] at hz HC
        clear hv hzd
        go_wp2_with fail
        refine (HC.out _).mono ?_
        rintro e w4 ⟨rfl, hb4⟩
        have HB4 := Lib.hid (HB.out.trans (hb4.mono HB.out.size))
        clear hb4
        go_wp2
        go_roundw
        case rel => exact ⟨p, m, by omega, by omega, rfl, rfl, HLo.out, HHi'.out, HB4.out⟩
        case measure => simp [intOf]; omega
    · obtain rfl : p = q := by omega
      have HL2 := Lib.hid (show ∀ s (h : s < (hs.map Prod.fst).length), s < p → kLt ((hs.map Prod.fst)[s]'h) key = true from fun s h h' => by rw [List.getElem_map]; exact HLo.out s (by simpa using h) h')
      have HH2 := Lib.hid (show ∀ s (h : s < (hs.map Prod.fst).length), p ≤ s → kLt ((hs.map Prod.fst)[s]'h) key = false from fun s h h' => by rw [List.getElem_map]; exact HHi.out s (by simpa using h) h')
      by_cases hpn : p < n
      · obtain ⟨b, off, rfl, hbB, hc⟩ := HS.out.get (by omega)
        obtain ⟨hc0, hc1, hc2⟩ := hc p (by omega)
        have c0 := (hb.cell (p := ⟨b, off + p * 3, none⟩) (Nat.lt_of_lt_of_le hbB hB)).trans hc0
        have c1 := (hb.cell (p := ⟨b, off + p * 3 + 1, none⟩) (Nat.lt_of_lt_of_le hbB hB)).trans hc1
        have c2 := (hb.cell (p := ⟨b, off + p * 3 + 2, none⟩) (Nat.lt_of_lt_of_le hbB hB)).trans hc2
        obtain ⟨y, hy⟩ : ∃ y, y = hs[p]'(by omega) := ⟨_, rfl⟩
        rw [← hy] at c0 c1 c2
        have HY := Lib.hid hy
        obtain ⟨k, vl, gn⟩ := y
        simp only at c0 c1 c2
        have HB := Lib.hid hb
        obtain ⟨z, hzd⟩ : ∃ z, z = Lib.compareBytes k.data.toList key.data.toList := ⟨_, rfl⟩
        have HC := Lib.hid (fun W => compareWriteToKey_any k vl gn key W)
        rw [← hzd] at HC
        have HZ := Lib.hid hzd
        clear hc hc0 hc1 hc2 hy hb hzd
        by_cases hke : k = key
        · have hz : (z == 0) = true := by rw [beq_iff_eq, HZ.out]; exact cmp_zero hke
          have HF := Lib.hid (show FindAt (hs.map Prod.fst) key p true from ⟨by rw [List.length_map]; omega, HL2.out, HH2.out, fun _ => ⟨by rw [List.length_map]; omega, by rw [List.getElem_map, ← HY.out]; exact hke⟩, fun _ => rfl⟩)
          clear hke
          go_wp2_with fail
          refine (HC.out _).mono ?_
          rintro e w4 ⟨rfl, hb4⟩
          have HB4 := Lib.hid (HB.out.trans (hb4.mono HB.out.size))
          clear hb4
          go_wp2
          go_ret2
          exact ⟨p, true, rfl, HF.out, HB4.out⟩
        · have hz : (z == 0) = false := by rw [beq_eq_false_iff_ne, HZ.out]; exact cmp_nonzero hke
          have HF := Lib.hid (show FindAt (hs.map Prod.fst) key p false from ⟨by rw [List.length_map]; omega, HL2.out, HH2.out, fun h => (by cases h), fun ⟨h, h'⟩ => by rw [List.getElem_map, ← HY.out] at h'; exact absurd h' hke⟩)
          clear hke
          go_wp2_with fail
          refine (HC.out _).mono ?_
          rintro e w4 ⟨rfl, hb4⟩
          have HB4 := Lib.hid (HB.out.trans (hb4.mono HB.out.size))
          clear hb4
          go_wp2
          go_ret2
          exact ⟨p, false, rfl, HF.out, HB4.out⟩
      · have HF := Lib.hid (show FindAt (hs.map Prod.fst) key p false from ⟨by rw [List.length_map]; omega, HL2.out, HH2.out, fun h => (by cases h), fun ⟨h, h'⟩ => absurd h (by rw [List.length_map]; omega)⟩)
        go_wp2
        go_ret2
        exact ⟨p, false, rfl, HF.out, hb⟩

theorem findWrite_any (A : Option Addr) (n c : Nat) (hs : List (ByteArray × ByteArray × Bool)) (key : ByteArray) (B : Nat) (w : World) (hn : hs.length = n) (h : WritesB w B A hs) (hB : B ≤ w.heap.size) (hl : n ≤ 1048576) (hup : upB wLt hs = true) :
    Calls Try.prog 67 #[.slice A n c, .string key] w (FindPost (hs.map Prod.fst) key w) := by
  have HC := Lib.hid (searchW_any A n c hs key B w hn h hB hl hup)
  clear hn h hup
  go_enter Try.func67, Try.ntmps67
  go_wp2_with fail
  refine HC.out.mono ?_
  rintro e w4 ⟨i, f, rfl, hf, hb4⟩
  have HF := Lib.hid hf
  clear hf
  go_wp2
  go_ret2
  exact ⟨i, f, rfl, HF.out, hb4⟩

end Go.Proofs.Ytohkpcgekoipbaa
