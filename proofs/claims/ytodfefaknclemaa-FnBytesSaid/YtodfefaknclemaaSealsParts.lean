/-
  Contracts for numberOf and big of the laws, and contracts of OpenSeal and SumOf at every text, for the law FnSeals.
-/
import Derived.Test.YtodfefaknclemaaSealMath
import Derived.Test.YtodfefaknclemaaDraw
namespace Go.Proofs.Ytodfefaknclemaa
open Go.RowKit
set_option linter.unusedVariables false

/-- A number of bytes: from 0 to 1000002. -/
def NumOfPost (w : World) (e : Ending) (w' : World) : Prop := ∃ x : Nat, x < 1000003 ∧ e = .returned (.int .i64 (x : Int)) ∧ w = w'

set_option maxRecDepth 100000 in
set_option maxHeartbeats 1000000 in
theorem numberOf_any (A : Option Addr) (n c : Nat) (l : List UInt8) (w : World) (hn : l.length = n) (h : BytesAt w A l) (hl : n ≤ 1048576) :
    Calls Try.prog 38 #[.slice A n c] w (NumOfPost w) := by
  subst hn
  rcases h with rfl | ⟨b, off, rfl, hbs, hc⟩
  · go_enter Try.func38, Try.ntmps38
    go_wp2
    refine wp_loop_rounds 1 ?_
    rw [rounds_succ]
    go_wp2
    go_ret
    exact ⟨0, by omega, rfl, rfl⟩
  · have HC := Lib.hid hc
    clear hc
    go_enter Try.func38, Try.ntmps38
    go_wp2
    go_loop [3, 8] (fun x i => ∃ (k m : Nat), k ≤ l.length ∧ i = .int .i64 k ∧ x = .int .i64 (m : Int) ∧ m < 1000003) (fun _ i => l.length - (intOf i).toNat)
    case atStart => exact ⟨0, 0, Nat.zero_le _, rfl, rfl, by omega⟩
    case round =>
      obtain ⟨k, m, hk, rfl, rfl, hm⟩ := hrel
      by_cases hlt : k < l.length
      · have hck := HC.out k hlt
        obtain ⟨y, hy⟩ : ∃ y : Int, y = (l[k].toNat : Int) := ⟨_, rfl⟩
        have hy0 : 0 ≤ y := by omega
        have hy1 : y < 256 := by have := l[k].toNat_lt; omega
        rw [← hy] at hck
        clear hy
        go_wp2
        go_round
        case rel =>
          refine ⟨k + 1, ((31 * (m : Int) + y) % 1000003).toNat, by omega, by go_num, ?_, by omega⟩
          exact val_int (by omega)
        case measure => simp [intOf]; omega
      · go_wp2
        go_ret
        exact ⟨m, hm, rfl, rfl⟩

set_option maxHeartbeats 400000 in
theorem big_yes (A B : Option Addr) (n c m d : Nat) (w : World) (hn : n ≤ maxLen) (hm : m ≤ maxLen) (h : 1048576 < n + m) :
    Calls Try.prog 14 #[.slice A n c, .slice B m d] w fun e w' => e = .returned (.bool true) ∧ w = w' := by
  unfold maxLen at hn hm
  by_cases h1 : 1048576 < n
  · have hd : decide (1048576 < (n : Int)) = true := by simp; omega
    go_enter Try.func14, Try.ntmps14
    go_wp2
    go_ret
    exact ⟨rfl, rfl⟩
  · have hd2 : decide (1048576 - (n : Int) < (m : Int)) = true := by simp; omega
    go_enter Try.func14, Try.ntmps14
    go_wp2
    go_ret
    exact ⟨rfl, rfl⟩

set_option maxHeartbeats 400000 in
theorem big_no (A B : Option Addr) (n c m d : Nat) (w : World) (h : n + m ≤ 1048576) :
    Calls Try.prog 14 #[.slice A n c, .slice B m d] w fun e w' => e = .returned (.bool false) ∧ w = w' := by
  have hd2 : decide (1048576 - (n : Int) < (m : Int)) = false := by simp; omega
  have hd1 : decide (1048576 < (n : Int)) = false := by simp; omega
  go_enter Try.func14, Try.ntmps14
  go_wp2
  go_ret
  exact ⟨rfl, rfl⟩

/-- What OpenSeal hands back. -/
def openRes (s : ByteArray) : ByteArray × Bool :=
  if 3 ≤ s.size ∧ s.size ≤ 6000 ∧ three (M.sumL (s.data.toList.take (s.size - 3))) = s.data.toList.drop (s.size - 3) then (⟨(s.data.toList.take (s.size - 3)).toArray⟩, true) else (⟨#[]⟩, false)
def OpenTuple (r : ByteArray × Bool) : Ending := .returned (.tuple #[.string r.1, .bool r.2])

theorem implOpen_all (s : ByteArray) (w : World) (hm : s.size ≤ maxLen) : Calls Try.prog 37 #[.string s] w fun e w' => e = OpenTuple (openRes s) ∧ Below w.heap.size w w' := by
  by_cases h : 3 ≤ s.size ∧ s.size ≤ 6000
  · by_cases hok : OkSeal s (s.size - 3)
    · have hr : openRes s = (⟨(s.data.toList.take (s.size - 3)).toArray⟩, true) := if_pos ⟨h.1, h.2, hok⟩
      rw [hr]
      exact implOpen_yes s w (s.size - 3) (by omega) h.2 hok
    · have hr : openRes s = (⟨#[]⟩, false) := if_neg (fun e => hok e.2.2)
      rw [hr]
      exact implOpen_no s w (s.size - 3) (by omega) h.2 hok
  · have hr : openRes s = (⟨#[]⟩, false) := if_neg (fun e => h ⟨e.1, e.2.1⟩)
    rw [hr]
    exact (implOpen_out s w hm (by omega)).mono fun e w' ⟨he, hw⟩ => ⟨he, by subst hw; exact Below.refl _ _⟩
theorem specOpen_all (s : ByteArray) (w : World) (hm : s.size ≤ maxLen) : Calls Try.prog 40 #[.string s] w fun e w' => e = OpenTuple (openRes s) ∧ Below w.heap.size w w' := by
  by_cases h : 3 ≤ s.size ∧ s.size ≤ 6000
  · by_cases hok : OkSeal s (s.size - 3)
    · have hr : openRes s = (⟨(s.data.toList.take (s.size - 3)).toArray⟩, true) := if_pos ⟨h.1, h.2, hok⟩
      rw [hr]
      exact specOpen_yes s w (s.size - 3) (by omega) h.2 hok
    · have hr : openRes s = (⟨#[]⟩, false) := if_neg (fun e => hok e.2.2)
      rw [hr]
      exact specOpen_no s w (s.size - 3) (by omega) h.2 hok
  · have hr : openRes s = (⟨#[]⟩, false) := if_neg (fun e => h ⟨e.1, e.2.1⟩)
    rw [hr]
    exact (specOpen_out s w hm (by omega)).mono fun e w' ⟨he, hw⟩ => ⟨he, by subst hw; exact Below.refl _ _⟩
/-- What SumOf hands back. -/
def sumRes (s : ByteArray) : Nat × Bool := if s.size ≤ 6000 then (M.sumL s.data.toList, true) else (0, false)
def SumTuple (r : Nat × Bool) : Ending := .returned (.tuple #[.int .i64 (r.1 : Int), .bool r.2])
theorem implSum_all (s : ByteArray) (w : World) (hm : s.size ≤ maxLen) : Calls Try.prog 42 #[.string s] w fun e w' => e = SumTuple (sumRes s) ∧ Below w.heap.size w w' := by
  by_cases h : s.size ≤ 6000
  · have hr : sumRes s = (M.sumL s.data.toList, true) := if_pos h
    rw [hr]; exact implSumOf_any s w h
  · have hr : sumRes s = (0, false) := if_neg h
    rw [hr]
    exact (implSumOf_long s w hm (by omega)).mono fun e w' ⟨he, hw⟩ => ⟨he, by subst hw; exact Below.refl _ _⟩
theorem specSum_all (s : ByteArray) (w : World) (hm : s.size ≤ maxLen) : Calls Try.prog 43 #[.string s] w fun e w' => e = SumTuple (sumRes s) ∧ Below w.heap.size w w' := by
  by_cases h : s.size ≤ 6000
  · have hr : sumRes s = (M.sumL s.data.toList, true) := if_pos h
    rw [hr]; exact (specSumOf_any s w h).mono fun e w' ⟨he, hw⟩ => ⟨he, by subst hw; exact Below.refl _ _⟩
  · have hr : sumRes s = (0, false) := if_neg h
    rw [hr]
    exact (specSumOf_long s w hm (by omega)).mono fun e w' ⟨he, hw⟩ => ⟨he, by subst hw; exact Below.refl _ _⟩

theorem of_list (s : ByteArray) : (⟨s.data.toList.toArray⟩ : ByteArray) = s := by
  apply ByteArray.ext
  simp
/-- OpenSeal of sealed bytes. -/
theorem open_sealed (t : ByteArray) (w : World) (ht : t.size ≤ 5997) :
    Calls Try.prog 37 #[.string ⟨(sealed t.data.toList).toArray⟩] w fun e w' => e = .returned (.tuple #[.string t, .bool true]) ∧ Below w.heap.size w w' := by
  have e1 : t.data.toList.length = t.size := by simp
  have e2 : (⟨(sealed t.data.toList).toArray⟩ : ByteArray).size = t.size + 3 := by rw [size_of_list, sealed_len, e1]
  have h := implOpen_yes ⟨(sealed t.data.toList).toArray⟩ w t.size e2.symm (by omega) (by
    unfold OkSeal
    simp only
    rw [← e1]
    exact sealed_ok _)
  simp only at h
  rw [← e1, sealed_take, of_list] at h
  exact h
/-- OpenSeal of sealed bytes with one byte changed. -/
theorem open_changed (t : ByteArray) (k : Nat) (x : UInt8) (w : World) (ht : t.size ≤ 5997) (hk : k < (sealed t.data.toList).length) (hx : x ≠ (sealed t.data.toList)[k]) :
    Calls Try.prog 37 #[.string ⟨((sealed t.data.toList).set k x).toArray⟩] w fun e w' => e = .returned (.tuple #[.string ⟨#[]⟩, .bool false]) ∧ Below w.heap.size w w' := by
  have e1 : t.data.toList.length = t.size := by simp
  have e2 : (⟨((sealed t.data.toList).set k x).toArray⟩ : ByteArray).size = t.size + 3 := by rw [size_of_list, List.length_set, sealed_len, e1]
  refine implOpen_no ⟨((sealed t.data.toList).set k x).toArray⟩ w t.size e2.symm (by omega) ?_
  unfold OkSeal
  simp only
  rw [← e1]
  exact sealed_set _ k hk x hx

/-- The bytes of a row that '[]byte(s)' laid, one of them written: as a string. -/
theorem SRow.conv_set {W : World} {g cap : Nat} {s : ByteArray} (h : SRow W g s cap) (k : Nat) (hk : k < s.data.toList.length) (x : UInt8) (v : Int) (hv : (x.toNat : Int) = v) (m : Nat) :
    (convert 22 9 (.slice (some ⟨g, 0, none⟩) s.size cap)).run Try.prog ((W.drewN m).setCell ⟨g, k, none⟩ (.int .u8 v)) = .ok (.string ⟨(s.data.toList.set k x).toArray⟩) ((W.drewN m).setCell ⟨g, k, none⟩ (.int .u8 v)) := by
  subst hv
  have hl : (s.data.toList.set k x).length = s.size := by simp
  rw [← hl]
  refine run_convert_bytes_back _ 22 9 5 ⟨g, 0, none⟩ cap _ Try.underlying22 Try.underlying5 Try.underlying9 (fun j hj => ?_)
  have hadd : (⟨g, 0, none⟩ : Addr).add j = ⟨g, j, none⟩ := by unfold Addr.add; split <;> simp_all
  rw [List.length_set] at hj
  rw [hadd]
  have hb := h.byte j hj
  have hbk := h.byte k hk
  by_cases hjk : j = k
  · subst hjk
    rw [World.cell?_setCell_same' (W.drewN m) ⟨g, j, none⟩ _ (by have e : (W.drewN m).cell? ⟨g, j, none⟩ = _ := hb; rw [e]; rfl)]
    simp
  · rw [World.cell?_setCell_other _ _ _ _ (fun e => hjk (by simp only [Addr.mk.injEq] at e; exact e.2.1.symm))]
    rw [List.getElem_set_ne (by omega)]
    exact hb
end Go.Proofs.Ytodfefaknclemaa
