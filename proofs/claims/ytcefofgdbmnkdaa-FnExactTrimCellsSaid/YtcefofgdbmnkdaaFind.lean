/-
  Contracts for the search of a key among cells: compareToKey, slices.BinarySearchFunc, findCell; l3At of the model.
-/
import Derived.Test.YtcefofgdbmnkdaaMem
import Derived.Test.YtcefofgdbmnkdaaGoodW
import Derived.Laws.BitsAllLaws
namespace Go.Proofs.Ytcefofgdbmnkdaa
open Go.RowKit CM
set_option linter.unusedVariables false

theorem compare_lt : ∀ a b : List UInt8, decide (Lib.compareBytes a b < 0) = Op.bytesLess a b
  | [], [] => by simp [Lib.compareBytes, Op.bytesLess]
  | [], _ :: _ => by simp [Lib.compareBytes, Op.bytesLess]
  | _ :: _, [] => by simp [Lib.compareBytes, Op.bytesLess]
  | a :: x, b :: y => by
    have ih := compare_lt x y
    unfold Lib.compareBytes
    simp only [Op.bytesLess]
    by_cases h1 : a < b
    · simp [h1]
    · by_cases h2 : b < a
      · have hne : (a == b) = false := by rw [beq_eq_false_iff_ne]; intro e; subst e; exact h1 h2
        simp [h1, h2, hne]
      · have he : a = b := by
          rw [UInt8.not_lt] at h1 h2
          exact UInt8.le_antisymm h2 h1
        subst he
        simp only [h1, if_false, ih, decide_false, Bool.false_or, beq_self_eq_true, Bool.true_and]
theorem compare_eq : ∀ a b : List UInt8, decide (Lib.compareBytes a b = 0) = (a == b)
  | [], [] => by simp [Lib.compareBytes]
  | [], _ :: _ => by simp [Lib.compareBytes]
  | _ :: _, [] => by simp [Lib.compareBytes]
  | a :: x, b :: y => by
    have ih := compare_eq x y
    unfold Lib.compareBytes
    rw [List.cons_beq_cons]
    by_cases h1 : a < b
    · have hne : (a == b) = false := by rw [beq_eq_false_iff_ne]; intro e; subst e; exact UInt8.lt_irrefl _ h1
      simp [h1, hne]
    · by_cases h2 : b < a
      · have hne : (a == b) = false := by rw [beq_eq_false_iff_ne]; intro e; subst e; exact h1 h2
        simp [h1, h2, hne]
      · have he : a = b := by
          rw [UInt8.not_lt] at h1 h2
          exact UInt8.le_antisymm h2 h1
        subst he
        simp only [h1, if_false, ih, beq_self_eq_true, Bool.true_and]

theorem compareToKey_any (k : ByteArray) (A : Option Addr) (n c : Nat) (key : ByteArray) (w : World) :
    Calls Try.prog 98 #[.agg #[.string k, .slice A n c], .string key] w fun e w' => e = .returned (.int .i64 (Lib.compareBytes k.data.toList key.data.toList)) ∧ Below w.heap.size w w' := by
  go_enter Try.func98, Try.ntmps98
  go_wp2_with fail
  refine (compare_any _ _ _).mono ?_
  rintro e w4 ⟨rfl, rfl⟩
  go_wp2
  go_ret
  exact ⟨rfl, below1 _ _⟩

theorem cmp_neg {a b : ByteArray} (h : kLt a b = true) : Lib.compareBytes a.data.toList b.data.toList < 0 := by
  have e := compare_lt a.data.toList b.data.toList
  unfold kLt at h
  rw [Lib.toList_data, Lib.toList_data] at h
  rw [h] at e
  exact of_decide_eq_true e
theorem cmp_nonneg {a b : ByteArray} (h : kLt a b = false) : 0 ≤ Lib.compareBytes a.data.toList b.data.toList := by
  have e := compare_lt a.data.toList b.data.toList
  unfold kLt at h
  rw [Lib.toList_data, Lib.toList_data] at h
  rw [h] at e
  have := of_decide_eq_false e
  omega
theorem cmp_zero {a b : ByteArray} (h : a = b) : Lib.compareBytes a.data.toList b.data.toList = 0 := by
  subst h
  have e := compare_eq a.data.toList a.data.toList
  rw [beq_self_eq_true] at e
  exact of_decide_eq_true e
theorem cmp_nonzero {a b : ByteArray} (h : a ≠ b) : Lib.compareBytes a.data.toList b.data.toList ≠ 0 := by
  have e := compare_eq a.data.toList b.data.toList
  rw [beq_eq_false_iff_ne.2 (fun e' => h (list_inj (by rw [Lib.toList_data, Lib.toList_data]; exact e')))] at e
  exact of_decide_eq_false e
/-- Keys of rising cells rise. -/
theorem keys_lt {hs : List (ByteArray × Option Addr × Nat × List (Int × ByteArray × Bool))} (hup : upB cLt (hs.map dat) = true) {i j : Nat} (hij : i < j) (hj : j < hs.length) : kLt (hs[i]'(by omega)).1 hs[j].1 = true := by
  have := up_lt cLt cLt_trans hup hij (by simpa using hj)
  simpa [cLt, dat] using this

/-- Place i is where a key is, or where it would have to be. -/
def FindAt (ks : List ByteArray) (key : ByteArray) (i : Nat) (f : Bool) : Prop :=
  i ≤ ks.length ∧ (∀ q (h : q < ks.length), q < i → kLt ks[q] key = true) ∧ (∀ q (h : q < ks.length), i ≤ q → kLt ks[q] key = false) ∧ (f = true ↔ ∃ h : i < ks.length, ks[i] = key)
def FindPost (ks : List ByteArray) (key : ByteArray) (w : World) (e : Ending) (w' : World) : Prop :=
  ∃ (i : Nat) (f : Bool), e = .returned (.tuple #[.int .i64 (i : Int), .bool f]) ∧ FindAt ks key i f ∧ Below w.heap.size w w'

set_option maxRecDepth 100000 in
set_option maxHeartbeats 1000000 in
theorem search_any (A : Option Addr) (n c : Nat) (hs : List (ByteArray × Option Addr × Nat × List (Int × ByteArray × Bool))) (key : ByteArray) (B : Nat) (w : World) (hn : hs.length = n) (h : CellsB w B A hs) (hB : B ≤ w.heap.size) (hl : n ≤ 1048576) (hup : upB cLt (hs.map dat) = true) :
    Calls Try.prog 97 #[.slice A n c, .string key, .func (.func 98) #[] #[]] w (FindPost (hs.map Prod.fst) key w) := by
  have HN := Lib.hid hn
  have hge := Nat.le_of_eq hn
  have hle := Nat.le_of_eq hn.symm
  have HS := Lib.hid h
  have HU := Lib.hid hup
  clear hn h hup
  go_enter Try.func97, Try.ntmps97
  go_wp2
  go_loopw [9, 10] (fun i j wr => ∃ p q : Nat, p ≤ q ∧ q ≤ n ∧ i = .int .i64 p ∧ j = .int .i64 q ∧ Hid (∀ s (h : s < hs.length), s < p → kLt (hs[s]'h).1 key = true) ∧ Hid (∀ s (h : s < hs.length), q ≤ s → kLt (hs[s]'h).1 key = false) ∧ Below w.heap.size w wr) (fun i j _ => (intOf j - intOf i).toNat)
  case atStart => exact ⟨0, n, by omega, by omega, rfl, rfl, fun s h h' => absurd h' (by omega), fun s h h' => absurd h' (by omega), Below.refl _ _⟩
  case round =>
    obtain ⟨p, q, hpq, hq, rfl, rfl, HLo, HHi, hb⟩ := hrel
    by_cases hlt : p < q
    · obtain ⟨m, hm⟩ : ∃ m : Nat, m = (p + q) / 2 := ⟨_, rfl⟩
      have hm1 : p ≤ m := by omega
      have hm2 : m < q := by omega
      have hmi : ((p : Int) + (q : Int)) / 2 = (m : Int) := by omega
      obtain ⟨b, off, rfl, hbB, hc⟩ := HS.out.get (by omega)
      obtain ⟨hc0, hc1⟩ := hc m (by omega)
      have c0 := (hb.cell (p := ⟨b, off + m * 2, none⟩) (Nat.lt_of_lt_of_le hbB hB)).trans hc0
      have c1 := (hb.cell (p := ⟨b, off + m * 2 + 1, none⟩) (Nat.lt_of_lt_of_le hbB hB)).trans hc1
      have hml : m < hs.length := by omega
      have HKL := Lib.hid (fun s (hs' : s < m) => keys_lt HU.out hs' hml)
      have HKG := Lib.hid (show ∀ s (hs' : m < s) (h : s < hs.length), kLt (hs[m]'hml).1 (hs[s]'h).1 = true from fun s hs' h => keys_lt HU.out hs' h)
      obtain ⟨y, hy⟩ : ∃ y, y = hs[m]'(by omega) := ⟨_, rfl⟩
      rw [← hy] at c0 c1 HKL HKG
      have HY := Lib.hid hy
      obtain ⟨k, ad, cp, vs⟩ := y
      simp only at c0 c1 HKL HKG
      have HB := Lib.hid hb
      have hmn : (m : Int) < (n : Int) := by omega
      have hm0 : (0 : Int) ≤ (m : Int) := by omega
      clear hc hc0 hc1 hy hb hm
      cases hv : kLt k key with
      | true =>
        have hz := cmp_neg hv
        have HLo' := Lib.hid (show ∀ s (h : s < hs.length), s < m + 1 → kLt (hs[s]'h).1 key = true from fun s h h' => by
          rcases Nat.lt_or_ge s m with h1 | h1
          · exact kLt_trans (HKL.out s h1) hv
          · obtain rfl : s = m := by omega
            rw [← HY.out]; exact hv)
        obtain ⟨z, hzd⟩ : ∃ z, z = Lib.compareBytes k.data.toList key.data.toList := ⟨_, rfl⟩
        have HC := Lib.hid (fun W => compareToKey_any k ad vs.length cp key W)
        rw [← hzd] at hz HC
        clear hv hzd
        go_wp2_with fail
        refine (HC.out _).mono ?_
        rintro e w4 ⟨rfl, hb4⟩
        have HB4 := Lib.hid (HB.out.trans (hb4.mono HB.out.size))
        clear hb4
        go_wp2
        go_roundw
        case rel => exact ⟨m + 1, q, by omega, by omega, by go_num, rfl, HLo'.out, HHi.out, HB4.out⟩
        case measure => simp [intOf]; omega
      | false =>
        have hz := cmp_nonneg hv
        have HHi' := Lib.hid (show ∀ s (h : s < hs.length), m ≤ s → kLt (hs[s]'h).1 key = false from fun s h h' => by
          rcases Nat.lt_or_ge m s with h1 | h1
          · cases e : kLt (hs[s]'h).1 key with
            | false => rfl
            | true => rw [kLt_trans (HKG.out s h1 h) e] at hv; cases hv
          · obtain rfl : s = m := by omega
            rw [← HY.out]; exact hv)
        obtain ⟨z, hzd⟩ : ∃ z, z = Lib.compareBytes k.data.toList key.data.toList := ⟨_, rfl⟩
        have HC := Lib.hid (fun W => compareToKey_any k ad vs.length cp key W)
        rw [← hzd] at hz HC
        clear hv hzd
        go_wp2_with fail
        refine (HC.out _).mono ?_
        rintro e w4 ⟨rfl, hb4⟩
        have HB4 := Lib.hid (HB.out.trans (hb4.mono HB.out.size))
        clear hb4
        go_wp2
        go_roundw
        case rel => exact ⟨p, m, by omega, by omega, rfl, rfl, HLo.out, HHi'.out, HB4.out⟩
        case measure => simp [intOf]; omega
    · obtain rfl : p = q := by omega
      have HL2 := Lib.hid (show ∀ s (h : s < (hs.map Prod.fst).length), s < p → kLt ((hs.map Prod.fst)[s]'h) key = true from fun s h h' => by rw [List.getElem_map]; exact HLo.out s (by simpa using h) h')
      have HH2 := Lib.hid (show ∀ s (h : s < (hs.map Prod.fst).length), p ≤ s → kLt ((hs.map Prod.fst)[s]'h) key = false from fun s h h' => by rw [List.getElem_map]; exact HHi.out s (by simpa using h) h')
      by_cases hpn : p < n
      · obtain ⟨b, off, rfl, hbB, hc⟩ := HS.out.get (by omega)
        obtain ⟨hc0, hc1⟩ := hc p (by omega)
        have c0 := (hb.cell (p := ⟨b, off + p * 2, none⟩) (Nat.lt_of_lt_of_le hbB hB)).trans hc0
        have c1 := (hb.cell (p := ⟨b, off + p * 2 + 1, none⟩) (Nat.lt_of_lt_of_le hbB hB)).trans hc1
        obtain ⟨y, hy⟩ : ∃ y, y = hs[p]'(by omega) := ⟨_, rfl⟩
        rw [← hy] at c0 c1
        have HY := Lib.hid hy
        obtain ⟨k, ad, cp, vs⟩ := y
        simp only at c0 c1
        have HB := Lib.hid hb
        obtain ⟨z, hzd⟩ : ∃ z, z = Lib.compareBytes k.data.toList key.data.toList := ⟨_, rfl⟩
        have HC := Lib.hid (fun W => compareToKey_any k ad vs.length cp key W)
        rw [← hzd] at HC
        have HZ := Lib.hid hzd
        clear hc hc0 hc1 hy hb hzd
        by_cases hke : k = key
        · have hz : (z == 0) = true := by rw [beq_iff_eq, HZ.out]; exact cmp_zero hke
          have HF := Lib.hid (show FindAt (hs.map Prod.fst) key p true from ⟨by rw [List.length_map]; omega, HL2.out, HH2.out, fun _ => ⟨by rw [List.length_map]; omega, by rw [List.getElem_map, ← HY.out]; exact hke⟩, fun _ => rfl⟩)
          clear hke
          go_wp2_with fail
          refine (HC.out _).mono ?_
          rintro e w4 ⟨rfl, hb4⟩
          have HB4 := Lib.hid (HB.out.trans (hb4.mono HB.out.size))
          clear hb4
          go_wp2
          go_ret2
          exact ⟨p, true, rfl, HF.out, HB4.out⟩
        · have hz : (z == 0) = false := by rw [beq_eq_false_iff_ne, HZ.out]; exact cmp_nonzero hke
          have HF := Lib.hid (show FindAt (hs.map Prod.fst) key p false from ⟨by rw [List.length_map]; omega, HL2.out, HH2.out, fun h => (by cases h), fun ⟨h, h'⟩ => by rw [List.getElem_map, ← HY.out] at h'; exact absurd h' hke⟩)
          clear hke
          go_wp2_with fail
          refine (HC.out _).mono ?_
          rintro e w4 ⟨rfl, hb4⟩
          have HB4 := Lib.hid (HB.out.trans (hb4.mono HB.out.size))
          clear hb4
          go_wp2
          go_ret2
          exact ⟨p, false, rfl, HF.out, HB4.out⟩
      · have HF := Lib.hid (show FindAt (hs.map Prod.fst) key p false from ⟨by rw [List.length_map]; omega, HL2.out, HH2.out, fun h => (by cases h), fun ⟨h, h'⟩ => absurd h (by rw [List.length_map]; omega)⟩)
        go_wp2
        go_ret2
        exact ⟨p, false, rfl, HF.out, hb⟩

theorem findCell_any (A : Option Addr) (n c : Nat) (hs : List (ByteArray × Option Addr × Nat × List (Int × ByteArray × Bool))) (key : ByteArray) (B : Nat) (w : World) (hn : hs.length = n) (h : CellsB w B A hs) (hB : B ≤ w.heap.size) (hl : n ≤ 1048576) (hup : upB cLt (hs.map dat) = true) :
    Calls Try.prog 59 #[.slice A n c, .string key] w (FindPost (hs.map Prod.fst) key w) := by
  have HC := Lib.hid (search_any A n c hs key B w hn h hB hl hup)
  clear hn h hup
  go_enter Try.func59, Try.ntmps59
  go_wp2_with fail
  refine HC.out.mono ?_
  rintro e w4 ⟨i, f, rfl, hf, hb4⟩
  have HF := Lib.hid hf
  clear hf
  go_wp2
  go_ret2
  exact ⟨i, f, rfl, HF.out, hb4⟩
end Go.Proofs.Ytcefofgdbmnkdaa
