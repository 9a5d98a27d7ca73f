/-
  Contracts for the readers of several texts (the program's ReadTexts, the model's texts).
-/
import Derived.Test.YtodfefaknclemaaText
import Derived.Test.YtodfefaknclemaaMark
namespace Go.Proofs.Ytodfefaknclemaa
open Go.RowKit

/-- The first k texts that are read from offset y on, and the offset behind them. -/
def run (s : ByteArray) (y : Nat) : Nat → Option (List ByteArray × Nat)
  | 0 => some ([], y)
  | k + 1 => match run s y k with
    | none => none
    | some (l, z) => if (readText s z).2.2 = true then some (l ++ [(readText s z).1], (readText s z).2.1) else none
theorem run_none (s : ByteArray) (y k n : Nat) (h : run s y k = none) (hn : k ≤ n) : run s y n = none := by
  induction n with
  | zero => have : k = 0 := by omega
            subst this; exact h
  | succ n ih =>
    rcases Nat.lt_or_ge k (n + 1) with h1 | h1
    · simp only [run]; rw [ih (by omega)]
    · have : k = n + 1 := by omega
      subst this; exact h
theorem run_fail (s : ByteArray) (y k z : Nat) (l : List ByteArray) (h : run s y k = some (l, z)) (hf : (readText s z).2.2 = false) : run s y (k + 1) = none := by
  simp only [run]; rw [h]; simp [hf]
theorem run_go (s t : ByteArray) (y k z z' : Nat) (l : List ByteArray) (h : run s y k = some (l, z)) (hf : readText s z = (t, z', true)) : run s y (k + 1) = some (l ++ [t], z') := by
  simp only [run]; rw [h]; simp [hf]
theorem run_len (s : ByteArray) (y k z : Nat) (l : List ByteArray) (hy : y ≤ s.size) (h : run s y k = some (l, z)) : l.length = k ∧ z ≤ s.size := by
  induction k generalizing l z with
  | zero => simp only [run, Option.some.injEq, Prod.mk.injEq] at h; obtain ⟨rfl, rfl⟩ := h; exact ⟨rfl, hy⟩
  | succ k ih =>
    simp only [run] at h
    cases hr : run s y k with
    | none => rw [hr] at h; simp at h
    | some p =>
      obtain ⟨l0, z0⟩ := p
      rw [hr] at h
      simp only at h
      have h0 := ih z0 l0 hr
      split at h
      · rename_i hok
        simp only [Option.some.injEq, Prod.mk.injEq] at h
        obtain ⟨rfl, rfl⟩ := h
        rcases ht : readText s z0 with ⟨t, z', ok⟩
        rw [ht] at hok
        simp only at hok
        subst hok
        have := readText_bounds ht
        exact ⟨by simp [h0.1], this.2.1⟩
      · simp at h

/-- What ReadTexts makes of the bytes at offset q. -/
def readTexts (s : ByteArray) (q : Nat) : Option (List ByteArray × Nat) :=
  if (M.readNum s.data.toList q).2.2 = true ∧ (M.readNum s.data.toList q).1 ≤ 40 then run s (M.readNum s.data.toList q).2.1 (M.readNum s.data.toList q).1 else none

theorem Filling.snoc {w : World} {g n k : Nat} {l : List ByteArray} (t : ByteArray) (hk : l.length = k) (h : Filling w g n l k) (hn : k < n) : Filling (w.setCell ⟨g, k, none⟩ (.string t)) g n (l ++ [t]) (k + 1) := by
  subst hk
  have h0 : Filling w g n (l ++ [t]) l.length := by
    obtain ⟨cur, h1, h2, h3⟩ := h
    refine ⟨cur, h1, h2, fun j hj hjk => ?_⟩
    rw [h3 j hjk hjk, List.getElem_append_left hjk]
  have := h0.store (by simp) hn
  simpa using this

/-- What the program's ReadTexts hands back: nothing, or a new slice that reads as the texts. -/
def RTsPost (o : Option (List ByteArray × Nat)) (w : World) (e : Ending) (w' : World) : Prop :=
  Below w.heap.size w w' ∧
  ((o = none ∧ e = .returned (.tuple #[.slice none 0 0, .int .i64 0, .bool false])) ∨
   ∃ l z g, o = some (l, z) ∧ e = .returned (.tuple #[.slice (some ⟨g, 0, none⟩) l.length l.length, .int .i64 (z : Int), .bool true]) ∧ w.heap.size ≤ g ∧ l.length ≤ 40 ∧ Filling w' g l.length l l.length)

set_option maxRecDepth 100000 in
set_option maxHeartbeats 2000000 in
theorem implReadTexts_yes (s : ByteArray) (q : Nat) (w : World) (h : Place s q) :
    Calls Try.prog 26 #[.string s, .int .i64 (q : Int)] w (RTsPost (readTexts s q) w) := by
  have hs := h.1
  have hq : q ≤ s.size := by have := h.2.2; omega
  have hn := numAt_any s q w hs hq
  rcases hr : M.readNum s.data.toList q with ⟨n, x, ok⟩
  rw [hr] at hn
  have HP := Lib.hid h
  have HN := Lib.hid hn
  have HR := Lib.hid hr
  clear hn hr h
  obtain ⟨i0, hi, hz0, hz1, hz2⟩ := info_parts info9
  cases ok with
  | false =>
    have hz : readTexts s q = none := by unfold readTexts; rw [HR.out]; simp
    have HZ := Lib.hid hz
    obtain ⟨rfl, rfl⟩ := M.read_false _ _ _ _ HR.out
    clear hz
    go_enter Try.func26, Try.ntmps26
    go_wp2_with fail
    refine (canRead_yes s q _ HP.out).mono ?_
    rintro e w' ⟨rfl, rfl⟩
    go_wp2_with fail
    refine HN.out.mono ?_
    rintro e w' ⟨rfl, rfl⟩
    go_wp2
    go_ret3
    exact ⟨Below.refl _ _, .inl ⟨HZ.out, rfl⟩⟩
  | true =>
    obtain ⟨hb1, hb2, hb3, hb4⟩ := M.read_bounds _ q n x HR.out
    rw [drop_len] at hb4
    by_cases h1 : 40 < n
    · have hz : readTexts s q = none := by unfold readTexts; rw [HR.out]; simp; omega
      have HZ := Lib.hid hz
      clear hz
      go_enter Try.func26, Try.ntmps26
      go_wp2_with fail
      refine (canRead_yes s q _ HP.out).mono ?_
      rintro e w' ⟨rfl, rfl⟩
      go_wp2_with fail
      refine HN.out.mono ?_
      rintro e w' ⟨rfl, rfl⟩
      go_wp2
      go_ret3
      exact ⟨Below.refl _ _, .inl ⟨HZ.out, rfl⟩⟩
    · have h2 : n ≤ 40 := by omega
      have hz : readTexts s q = run s x n := by unfold readTexts; rw [HR.out]; exact if_pos ⟨rfl, h2⟩
      have HZ := Lib.hid hz
      have hx : x ≤ s.size := by omega
      clear hz hb1 hb2 hb3 hb4 h1
      go_enter Try.func26, Try.ntmps26
      go_wp2_with fail
      refine (canRead_yes s q _ HP.out).mono ?_
      rintro e w' ⟨rfl, rfl⟩
      go_wp2_with fail
      refine HN.out.mono ?_
      rintro e w' ⟨rfl, rfl⟩
      go_wp2_with (at_make; refine wpList_make_full _ rfl (.tmp 28) (.tmp 28) 29 rfl w.heap.size 9 i0 _ 1 Try.underlying29 hi hz0 hz1 .i64 .i64 _ _ n rfl rfl rfl rfl (by rw [hz2]; omega) (by unfold maxLen; omega) (Nat.le_refl _) ?_; intro w1 hown hgr)
      have hbw : Below w.heap.size w w1 := (Below.refl _ _).grown hgr (Nat.le_refl _) (by simp)
      have hf0 := filling_made (xs := []) hown
      clear hown hgr
      go_loopw [1, 32] (fun z i wr => ∃ (k y : Nat) (l : List ByteArray), k ≤ n ∧ y ≤ s.size ∧ i = .int .i64 k ∧ z = .int .i64 (y : Int) ∧ Hid (l.length = k) ∧ Hid (run s x k = some (l, y)) ∧ Filling wr w.heap.size n l k ∧ Below w.heap.size w wr) (fun _ i _ => n - (intOf i).toNat)
      case atStart => exact ⟨0, x, [], by omega, hx, rfl, rfl, rfl, rfl, hf0, hbw⟩
      case round =>
        clear hf0 hbw
        obtain ⟨k, y, l, hk, hy, rfl, rfl, HL, HRUN, hf, hb⟩ := hrel
        by_cases hlt : k < n
        · have HT := Lib.hid (fun W => textAt_any s y W hs hy)
          rcases ht : readText s y with ⟨t, z, ok⟩
          rw [ht] at HT
          have HTE := Lib.hid ht
          clear ht
          go_wp2_with fail
          refine (HT.out _).mono ?_
          rintro e w2 ⟨rfl, hb2⟩
          unfold TextTuple
          have hf2 := hf.below hb2
          obtain ⟨v0, hv0⟩ := hf2.cell k hlt
          have hfr := hf2.free k
          have hst := Filling.snoc t HL.out hf2 hlt
          have hb3 := hb.trans (hb2.mono hb.size)
          have HB4 := Lib.hid (hb3.setCell (p := ⟨w.heap.size, k, none⟩) (Nat.le_refl _) (.string t))
          clear hf2 hb3 hb2
          cases ok with
          | true =>
            go_wp2
            go_roundw
            case rel => exact ⟨k + 1, z, l ++ [t], by omega, (readText_bounds HTE.out).2.1, by go_num, rfl, by have := HL.out; show (l ++ [t]).length = k + 1; simp; omega, run_go _ _ _ _ _ _ _ HRUN.out HTE.out, hst, HB4.out⟩
            case measure => simp [intOf]; omega
          | false =>
            have HNO := Lib.hid (run_none s x (k + 1) n (run_fail s x k y l HRUN.out (by rw [HTE.out])) (by omega))
            go_wp2
            go_ret3
            exact ⟨HB4.out, .inl ⟨by rw [HZ.out]; exact HNO.out, rfl⟩⟩
        · have hkn : k = n := by omega
          have HKN := Lib.hid hkn
          clear hkn
          go_wp2
          go_ret3
          have e1 : l.length = n := by rw [HL.out, HKN.out]
          refine ⟨hb, .inr ⟨l, y, w.heap.size, by rw [HZ.out, ← HKN.out]; exact HRUN.out, by rw [e1]; rfl, Nat.le_refl _, by omega, ?_⟩⟩
          rw [e1]
          rw [HKN.out] at hf
          exact hf
end Go.Proofs.Ytodfefaknclemaa
