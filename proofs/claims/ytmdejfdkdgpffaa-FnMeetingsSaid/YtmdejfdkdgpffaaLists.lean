/-
  Contracts for the laws' helpers on slices of spans: szSpanS, toSpanS, eqSpanS.
-/
import Derived.Test.YtmdejfdkdgpffaaGood
import Derived.Test.YtmdejfdkdgpffaaDraw
namespace Go.Proofs.Ytmdejfdkdgpffaa
open Go.RowKit
set_option linter.unusedVariables false

/-- A slice of spans that reads as the list xs: empty, or cells at an address. -/
def SpansAt (w : World) (A : Option Addr) (xs : List (Int × Int)) : Prop :=
  xs = [] ∨ ∃ b off, A = some ⟨b, off, none⟩ ∧ b < w.heap.size ∧ ∀ k (h : k < xs.length), w.cell? ⟨b, off + k * 2, none⟩ = some (.int .i64 xs[k].1) ∧ w.cell? ⟨b, off + k * 2 + 1, none⟩ = some (.int .i64 xs[k].2)
theorem SpansAt.below {w w' : World} {A : Option Addr} {xs : List (Int × Int)} (h : SpansAt w A xs) (hb : Below w.heap.size w w') : SpansAt w' A xs := by
  rcases h with h | ⟨b, off, hA, hlt, hc⟩
  · exact .inl h
  · exact .inr ⟨b, off, hA, Nat.lt_of_lt_of_le hlt hb.size, fun k hk => ⟨(hb.cell (p := ⟨b, off + k * 2, none⟩) hlt).trans (hc k hk).1, (hb.cell (p := ⟨b, off + k * 2 + 1, none⟩) hlt).trans (hc k hk).2⟩⟩
theorem SpansAt.drewN {w : World} {A : Option Addr} {xs : List (Int × Int)} (h : SpansAt w A xs) (n : Nat) : SpansAt (w.drewN n) A xs := h

/-- What szSpanS hands back. -/
theorem sz_no (A : Option Addr) (n c : Nat) (w : World) (hl : n ≤ maxLen) (h : 1048576 < n) :
    Calls Try.prog 42 #[.slice A n c, .int .i64 1048576] w fun e w' => e = .returned (.int .i64 (-1)) ∧ w = w' := by
  unfold maxLen at hl
  go_enter Try.func42, Try.ntmps42
  go_wp2
  go_ret
  exact ⟨rfl, rfl⟩
theorem sz_yes (A : Option Addr) (n c : Nat) (w : World) (h : n ≤ 1048576) :
    Calls Try.prog 42 #[.slice A n c, .int .i64 1048576] w fun e w' => e = .returned (.int .i64 (1048576 - (n : Int))) ∧ w = w' := by
  go_enter Try.func42, Try.ntmps42
  go_wp2
  go_ret
  exact ⟨rfl, rfl⟩

/-- A block that a copy of n spans fills: the first k are there. -/
def Filling (w : World) (g n : Nat) (xs : List (Int × Int)) (k : Nat) : Prop :=
  ∃ cur : Array Value, w.heap[g]? = some (.cells cur 29 (0, 0)) ∧ cur.size = n * 2 ∧ ∀ j (h : j < xs.length), j < k → cur[j * 2]? = some (.int .i64 xs[j].1) ∧ cur[j * 2 + 1]? = some (.int .i64 xs[j].2)
theorem Filling.cell {w : World} {g n k : Nat} {xs : List (Int × Int)} (h : Filling w g n xs k) (j : Nat) (hj : j < n * 2) : ∃ v, w.cell? ⟨g, j, none⟩ = some v := by
  obtain ⟨cur, hh, hs, _⟩ := h
  exact ⟨cur[j], by rw [cell_of_row w g j cur 29 (0, 0) hh]; exact Array.getElem?_eq_getElem (by omega)⟩
theorem Filling.free {w : World} {g n k : Nat} {xs : List (Int × Int)} (h : Filling w g n xs k) (j : Nat) : w.frozen? ⟨g, j, none⟩ = false := by
  obtain ⟨cur, hh, _, _⟩ := h
  simp [World.frozen?, hh]
theorem Filling.below {w w' : World} {g n k : Nat} {xs : List (Int × Int)} (h : Filling w g n xs k) (hb : Below w.heap.size w w') : Filling w' g n xs k := by
  obtain ⟨cur, hh, hs, hc⟩ := h
  exact ⟨cur, (hb.block g (lt_blk hh)).trans hh, hs, hc⟩
theorem Filling.store {w : World} {g n k : Nat} {xs : List (Int × Int)} (h : Filling w g n xs k) (hk : k < xs.length) (hn : k < n) :
    Filling ((w.setCell ⟨g, k * 2, none⟩ (.int .i64 xs[k].1)).setCell ⟨g, k * 2 + 1, none⟩ (.int .i64 xs[k].2)) g n xs (k + 1) := by
  obtain ⟨cur, hh, hs, hc⟩ := h
  refine ⟨(cur.setIfInBounds (k * 2) (.int .i64 xs[k].1)).setIfInBounds (k * 2 + 1) (.int .i64 xs[k].2), ?_, by simp [hs], fun j hj hjk => ?_⟩
  · simp [World.setCell, Array.getElem?_modify, hh]
  · rcases Nat.lt_or_ge j k with h1 | h1
    · rw [Array.getElem?_setIfInBounds_ne (by omega), Array.getElem?_setIfInBounds_ne (by omega), Array.getElem?_setIfInBounds_ne (by omega), Array.getElem?_setIfInBounds_ne (by omega)]
      exact hc j hj h1
    · have : j = k := by omega
      subst this
      constructor
      · rw [Array.getElem?_setIfInBounds_ne (by omega), Array.getElem?_setIfInBounds_self_of_lt (by omega)]
      · rw [Array.getElem?_setIfInBounds_self_of_lt (by simp; omega)]
theorem Filling.spans {w : World} {g n : Nat} {xs : List (Int × Int)} (h : Filling w g n xs xs.length) : SpansAt w (some ⟨g, 0, none⟩) xs := by
  obtain ⟨cur, hh, hs, hc⟩ := h
  refine .inr ⟨g, 0, rfl, lt_blk hh, fun k hk => ?_⟩
  rw [cell_of_row w g _ cur 29 (0, 0) hh, cell_of_row w g _ cur 29 (0, 0) hh, Nat.zero_add]
  exact hc k hk hk

theorem info29 : (Try.prog.info? 29).map (fun i => (i.zero, i.size, i.bytes)) = some (some (.agg #[.int .i64 0, .int .i64 0]), 2, 16) := by kernel_rfl

/-- What toSpanS hands back: a new slice that reads as the same list. -/
def ToPost (xs : List (Int × Int)) (w : World) (e : Ending) (w' : World) : Prop :=
  ∃ g, e = .returned (.slice (some ⟨g, 0, none⟩) xs.length xs.length) ∧ g = w.heap.size ∧ Filling w' g xs.length xs xs.length ∧ Below w.heap.size w w'

theorem filling_made {w w' : World} {n : Nat} {xs : List (Int × Int)} (h : w'.ownsRow w.heap.size 29 2 (.slice (some ⟨w.heap.size, 0, none⟩) n n) n (madeCells (Value.agg #[.int .i64 0, .int .i64 0]).cells (n * 2)).toList) : Filling w' w.heap.size n xs 0 := by
  rcases h.2 with ⟨h', _⟩ | ⟨g, cap, cur, h', _, hh, _, _, hs, _⟩
  · simp at h'
  · simp only [Value.slice.injEq, Option.some.injEq, Addr.mk.injEq, and_true, true_and] at h'
    obtain ⟨rfl, rfl⟩ := h'
    exact ⟨cur, hh, by omega, fun j _ hj => by omega⟩

set_option maxRecDepth 100000 in
set_option maxHeartbeats 1000000 in
theorem to_any (A : Option Addr) (n c : Nat) (xs : List (Int × Int)) (w : World) (hn : xs.length = n) (h : SpansAt w A xs) (hl : n ≤ 1048576) :
    Calls Try.prog 43 #[.slice A n c] w (ToPost xs w) := by
  obtain ⟨i0, hi, hz0, hz1, hz2⟩ := info_parts info29
  have HN := Lib.hid hn
  have hge := Nat.le_of_eq hn
  have hle := Nat.le_of_eq hn.symm
  have HS := Lib.hid h
  clear hn h
  go_enter Try.func43, Try.ntmps43
  go_wp2_with (at_make; refine wpList_make_full _ rfl (.tmp 6) (.tmp 6) 43 rfl w.heap.size 29 i0 _ 2 Try.underlying43 hi hz0 hz1 .i64 .i64 _ _ n rfl rfl rfl rfl (by rw [hz2]; omega) (by unfold maxLen; omega) (Nat.le_refl _) ?_; intro w1 hown hgr)
  have hb1 : Below w.heap.size w w1 := (Below.refl _ _).grown hgr (Nat.le_refl _) (by simp)
  have hf0 := filling_made (xs := xs) hown
  clear hown hgr
  go_loopw [4] (fun i wr => ∃ k : Nat, k ≤ n ∧ i = .int .i64 k ∧ Filling wr w.heap.size n xs k ∧ Below w.heap.size w wr) (fun i _ => n - (intOf i).toNat)
  case atStart => exact ⟨0, by omega, rfl, hf0, hb1⟩
  case round =>
    clear hf0 hb1
    obtain ⟨k, hk, rfl, hf, hb⟩ := hrel
    by_cases hlt : k < n
    · rcases HS.out with h | ⟨b, off, rfl, hbs, hc⟩
      · subst h; simp only [List.length_nil] at hle; omega
      · obtain ⟨hc1, hc2⟩ := hc k (by omega)
        have hck1 := (hb.cell (p := ⟨b, off + k * 2, none⟩) hbs).trans hc1
        have hck2 := (hb.cell (p := ⟨b, off + k * 2 + 1, none⟩) hbs).trans hc2
        obtain ⟨x, hx⟩ : ∃ x, x = xs[k].1 := ⟨_, rfl⟩
        obtain ⟨y, hy⟩ : ∃ y, y = xs[k].2 := ⟨_, rfl⟩
        rw [← hx] at hck1
        rw [← hy] at hck2
        have HX := Lib.hid hx
        have HY := Lib.hid hy
        have HF := Lib.hid hf
        have HB := Lib.hid hb
        clear hc hc1 hc2 hx hy hf hb
        go_wp2_with fail
        refine (toSpan_any _ _ _).mono ?_
        rintro e w4 ⟨rfl, hb4⟩
        have hb := HB.out.trans (hb4.mono HB.out.size)
        have hf := HF.out.below hb4
        obtain ⟨v0, hv0⟩ := hf.cell (k * 2) (by omega)
        obtain ⟨v1, hv1⟩ := hf.cell (k * 2 + 1) (by omega)
        have hfr0 := hf.free (k * 2)
        have hfr1 := hf.free (k * 2 + 1)
        have hst := hf.store (by omega) hlt
        rw [← HX.out, ← HY.out] at hst
        have HST := Lib.hid hst
        have HBB := Lib.hid hb
        clear hst hf hb hb4 hck1 hck2
        go_wp2
        go_roundw
        case rel => exact ⟨k + 1, by omega, by go_num, HST.out, (HBB.out.setCell (p := ⟨w.heap.size, k * 2, none⟩) (Nat.le_refl _) _).setCell (p := ⟨w.heap.size, k * 2 + 1, none⟩) (Nat.le_refl _) _⟩
        case measure => simp [intOf]; omega
    · go_wp2
      go_ret
      have hkn : k = n := by omega
      subst hkn
      refine ⟨w.heap.size, by rw [HN.out]; rfl, rfl, ?_, hb⟩
      rw [HN.out]; exact hf

set_option maxRecDepth 100000 in
set_option maxHeartbeats 1000000 in
theorem eqSpanS_any (A B : Option Addr) (n c d : Nat) (xs : List (Int × Int)) (w : World) (hn : xs.length = n) (h : SpansAt w A xs) (h' : SpansAt w B xs) (hl : n ≤ 1048576) :
    Calls Try.prog 44 #[.slice A n c, .slice B n d] w fun e w' => e = .returned (.bool true) ∧ Below w.heap.size w w' := by
  have hge := Nat.le_of_eq hn
  have hle := Nat.le_of_eq hn.symm
  have HS := Lib.hid h
  have HS' := Lib.hid h'
  clear hn h h'
  go_enter Try.func44, Try.ntmps44
  go_wp2
  go_loopw [5] (fun i wr => ∃ k : Nat, k ≤ n ∧ i = .int .i64 k ∧ Below w.heap.size w wr) (fun i _ => n - (intOf i).toNat)
  case atStart => exact ⟨0, by omega, rfl, Below.refl _ _⟩
  case round =>
    obtain ⟨k, hk, rfl, hb⟩ := hrel
    by_cases hlt : k < n
    · rcases HS.out with h | ⟨b, off, rfl, hbs, hc⟩
      · subst h; simp only [List.length_nil] at hle; omega
      · rcases HS'.out with h | ⟨b', off', rfl, hbs', hc'⟩
        · subst h; simp only [List.length_nil] at hle; omega
        · obtain ⟨hc1, hc2⟩ := hc k (by omega)
          obtain ⟨hc3, hc4⟩ := hc' k (by omega)
          have c0 := (hb.cell (p := ⟨b, off + k * 2, none⟩) hbs).trans hc1
          have c1 := (hb.cell (p := ⟨b, off + k * 2 + 1, none⟩) hbs).trans hc2
          have d0 := (hb.cell (p := ⟨b', off' + k * 2, none⟩) hbs').trans hc3
          have d1 := (hb.cell (p := ⟨b', off' + k * 2 + 1, none⟩) hbs').trans hc4
          obtain ⟨x, hx⟩ : ∃ x, x = xs[k].1 := ⟨_, rfl⟩
          obtain ⟨y, hy⟩ : ∃ y, y = xs[k].2 := ⟨_, rfl⟩
          rw [← hx] at c0 d0
          rw [← hy] at c1 d1
          have hk0 : (0 : Int) ≤ (k : Int) := by omega
          have hkn : (k : Int) < (n : Int) := by omega
          have hb1 : b < wr.heap.size := Nat.lt_of_lt_of_le hbs hb.size
          have hb2 : b' < wr.heap.size := Nat.lt_of_lt_of_le hbs' hb.size
          have HB := Lib.hid hb
          clear hc hc' hc1 hc2 hc3 hc4 hx hy hb
          go_wp2_with fail
          go_region_held3 (fun w' => w'.cell? ⟨b, off + k * 2, none⟩ = some (.int .i64 x) ∧ w'.cell? ⟨b, off + k * 2 + 1, none⟩ = some (.int .i64 y) ∧ w'.cell? ⟨b', off' + k * 2, none⟩ = some (.int .i64 x) ∧ w'.cell? ⟨b', off' + k * 2 + 1, none⟩ = some (.int .i64 y))
            (first | exact ⟨c0, c1, d0, d1⟩ | (go_split_ands; exact ⟨kept2 hb4 c0 hb1, kept2 hb4 c1 hb1, kept2 hb4 d0 hb2, kept2 hb4 d1 hb2⟩))
            ((go_at_call 39; (with_reducible refine (eqSpan_same _ _ _).mono ?_); rintro e w4 ⟨rfl, hb4⟩))
          have HBB := Lib.hid (Below.trans (b := wr.drew) HB.out.drew (hb4.mono HB.out.size))
          clear hb4
          go_wp2
          go_roundw
          case rel => exact ⟨k + 1, by omega, by go_num, HBB.out⟩
          case measure => simp [intOf]; omega
    · go_wp2
      go_ret
      exact ⟨rfl, hb⟩
end Go.Proofs.Ytmdejfdkdgpffaa
