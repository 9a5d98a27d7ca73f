/-
  Contracts for the laws' helpers on slices of strings: szStringS, toStringS, eqStringS.
-/
import Derived.Test.YtodfefaknclemaaReader
import Derived.OwnWalk
namespace Go.Proofs.Ytodfefaknclemaa
open Go.RowKit

/-- A slice of strings that reads as the list xs: empty, or cells at an address. -/
def StrsAt (w : World) (A : Option Addr) (xs : List ByteArray) : Prop :=
  xs = [] ∨ ∃ b off, A = some ⟨b, off, none⟩ ∧ b < w.heap.size ∧ ∀ k (h : k < xs.length), w.cell? ⟨b, off + k, none⟩ = some (.string xs[k])

theorem StrsAt.below {w w' : World} {A : Option Addr} {xs : List ByteArray} (h : StrsAt w A xs) (hb : Below w.heap.size w w') : StrsAt w' A xs := by
  rcases h with h | ⟨b, off, hA, hlt, hc⟩
  · exact .inl h
  · exact .inr ⟨b, off, hA, Nat.lt_of_lt_of_le hlt hb.size, fun k hk => (hb.cell (p := ⟨b, off + k, none⟩) hlt).trans (hc k hk)⟩
theorem StrsAt.drewN {w : World} {A : Option Addr} {xs : List ByteArray} (h : StrsAt w A xs) (n : Nat) : StrsAt (w.drewN n) A xs := h

/-- What szStringS hands back: a number, and if it is not negative, few and short strings. -/
def SzPost (xs : List ByteArray) (w : World) (e : Ending) (w' : World) : Prop :=
  ∃ r : Int, e = .returned (.int .i64 r) ∧ w = w' ∧ r ≤ 1048576 ∧ (0 ≤ r → xs.length ≤ 1048576 ∧ ∀ k (h : k < xs.length), xs[k].size ≤ 1048576)

set_option maxRecDepth 100000 in
set_option maxHeartbeats 1000000 in
theorem sz_any (A : Option Addr) (n c : Nat) (xs : List ByteArray) (w : World) (hn : xs.length = n) (h : StrsAt w A xs) (hl : n ≤ maxLen) (hx : ∀ k (h : k < xs.length), xs[k].size ≤ maxLen) :
    Calls Try.prog 44 #[.slice A n c, .int .i64 1048576] w (SzPost xs w) := by
  subst hn
  unfold maxLen at hl
  by_cases hlong : 1048576 < xs.length
  · clear h hx
    go_enter Try.func44, Try.ntmps44
    go_wp2
    go_ret
    exact ⟨_, rfl, rfl, by omega, fun h => by omega⟩
  · have HX := Lib.hid hx
    clear hx
    rcases h with rfl | ⟨b, off, rfl, hbs, hc⟩
    · go_enter Try.func44, Try.ntmps44
      go_wp2
      refine wp_loop_rounds 1 ?_
      rw [rounds_succ]
      go_wp2
      go_ret
      exact ⟨_, rfl, rfl, by omega, fun _ => ⟨by simp, fun k hk => by simp at hk⟩⟩
    · have HC := Lib.hid hc
      clear hc
      go_enter Try.func44, Try.ntmps44
      go_wp2
      go_loop [1, 5] (fun r i => ∃ (k : Nat) (q : Int), k ≤ xs.length ∧ i = .int .i64 k ∧ r = .int .i64 q ∧ 0 ≤ q ∧ q ≤ 1048576 ∧ Hid (∀ j (h : j < xs.length), j < k → xs[j].size ≤ 1048576)) (fun _ i => xs.length - (intOf i).toNat)
      case atStart => exact ⟨0, _, by omega, rfl, rfl, by omega, by omega, fun j _ hj => by omega⟩
      case round =>
        obtain ⟨k, q, hk, rfl, rfl, hq0, hq1, HJ⟩ := hrel
        by_cases hlt : k < xs.length
        · have hck := HC.out k hlt
          have hxk := HX.out k hlt
          unfold maxLen at hxk
          by_cases hneg : q < (xs[k].size : Int)
          · go_wp2
            go_ret
            exact ⟨_, rfl, rfl, by omega, fun h => by omega⟩
          · have hnn : (xs[k].size : Int) ≤ q := by omega
            clear hneg
            go_wp2
            go_round
            case rel =>
              refine ⟨k + 1, q - (xs[k].size : Int), by omega, by go_num, rfl, by omega, by omega, fun j hj hjk => ?_⟩
              rcases Nat.lt_or_ge j k with h1 | h1
              · exact HJ.out j hj h1
              · have : j = k := by omega
                subst this; omega
            case measure => simp [intOf]; omega
        · go_wp2
          go_ret
          exact ⟨_, rfl, rfl, hq1, fun _ => ⟨by omega, fun j hj => HJ.out j hj (by omega)⟩⟩

/-- A block that a copy of n strings fills: the first k are there. -/
def Filling (w : World) (g n : Nat) (xs : List ByteArray) (k : Nat) : Prop :=
  ∃ cur : Array Value, w.heap[g]? = some (.cells cur 9 (0, 0)) ∧ cur.size = n ∧ ∀ j (h : j < xs.length), j < k → cur[j]? = some (.string xs[j])
theorem Filling.cell {w : World} {g n k : Nat} {xs : List ByteArray} (h : Filling w g n xs k) (j : Nat) (hj : j < n) : ∃ v, w.cell? ⟨g, j, none⟩ = some v := by
  obtain ⟨cur, hh, hs, _⟩ := h
  exact ⟨cur[j], by rw [cell_of_row w g j cur 9 (0, 0) hh]; exact Array.getElem?_eq_getElem (by omega)⟩
theorem Filling.free {w : World} {g n k : Nat} {xs : List ByteArray} (h : Filling w g n xs k) (j : Nat) : w.frozen? ⟨g, j, none⟩ = false := by
  obtain ⟨cur, hh, _, _⟩ := h
  simp [World.frozen?, hh]
theorem Filling.store {w : World} {g n k : Nat} {xs : List ByteArray} (h : Filling w g n xs k) (hk : k < xs.length) (hn : k < n) : Filling (w.setCell ⟨g, k, none⟩ (.string xs[k])) g n xs (k + 1) := by
  obtain ⟨cur, hh, hs, hc⟩ := h
  refine ⟨cur.setIfInBounds k (.string xs[k]), ?_, by simp [hs], fun j hj hjk => ?_⟩
  · simp [World.setCell, Array.getElem?_modify, hh]
  · rcases Nat.lt_or_ge j k with h1 | h1
    · rw [Array.getElem?_setIfInBounds_ne (by omega)]
      exact hc j hj h1
    · have : j = k := by omega
      subst this
      simp [hs, hn]
theorem Filling.strs {w : World} {g n : Nat} {xs : List ByteArray} (h : Filling w g n xs xs.length) : StrsAt w (some ⟨g, 0, none⟩) xs := by
  obtain ⟨cur, hh, hs, hc⟩ := h
  refine .inr ⟨g, 0, rfl, (Array.getElem?_eq_some_iff.1 hh).1, fun k hk => ?_⟩
  rw [cell_of_row w g (0 + k) cur 9 (0, 0) hh, Nat.zero_add]
  exact hc k hk hk

theorem info9 : (Try.prog.info? 9).map (fun i => (i.zero, i.size, i.bytes)) = some (some (.string ⟨#[]⟩), 1, 16) := by kernel_rfl

/-- What toStringS hands back: a new slice that reads as the same list. -/
def ToPost (xs : List ByteArray) (w : World) (e : Ending) (w' : World) : Prop :=
  ∃ g, e = .returned (.slice (some ⟨g, 0, none⟩) xs.length xs.length) ∧ g = w.heap.size ∧ Filling w' g xs.length xs xs.length ∧ Below w.heap.size w w'

theorem filling_made {w w' : World} {n : Nat} {xs : List ByteArray} (h : w'.ownsRow w.heap.size 9 1 (.slice (some ⟨w.heap.size, 0, none⟩) n n) n (madeCells (Value.string ⟨#[]⟩).cells (n * 1)).toList) : Filling w' w.heap.size n xs 0 := by
  rcases h.2 with ⟨h', _⟩ | ⟨g, cap, cur, h', _, hh, _, _, hs, _⟩
  · simp at h'
  · simp only [Value.slice.injEq, Option.some.injEq, Addr.mk.injEq, and_true, true_and] at h'
    obtain ⟨rfl, rfl⟩ := h'
    exact ⟨cur, hh, by omega, fun j _ hj => by omega⟩

set_option maxRecDepth 100000 in
set_option maxHeartbeats 1000000 in
theorem to_any (A : Option Addr) (n c : Nat) (xs : List ByteArray) (w : World) (hn : xs.length = n) (h : StrsAt w A xs) (hl : n ≤ 1048576) :
    Calls Try.prog 45 #[.slice A n c] w (ToPost xs w) := by
  obtain ⟨i0, hi, hz0, hz1, hz2⟩ := info_parts info9
  have HN := Lib.hid hn
  have hge := Nat.le_of_eq hn
  have hle := Nat.le_of_eq hn.symm
  have HS := Lib.hid h
  clear hn h
  go_enter Try.func45, Try.ntmps45
  go_wp2_with (at_make; refine wpList_make_full _ rfl (.tmp 6) (.tmp 6) 29 rfl w.heap.size 9 i0 _ 1 Try.underlying29 hi hz0 hz1 .i64 .i64 _ _ n rfl rfl rfl rfl (by rw [hz2]; omega) (by unfold maxLen; omega) (Nat.le_refl _) ?_; intro w1 hown hgr)
  have hb1 : Below w.heap.size w w1 := (Below.refl _ _).grown hgr (Nat.le_refl _) (by simp)
  have hf0 := filling_made (xs := xs) hown
  clear hown hgr
  go_loopw [4] (fun i wr => ∃ k : Nat, k ≤ n ∧ i = .int .i64 k ∧ Filling wr w.heap.size n xs k ∧ Below w.heap.size w wr) (fun i _ => n - (intOf i).toNat)
  case atStart => exact ⟨0, by omega, rfl, hf0, hb1⟩
  case round =>
    clear hf0 hb1
    obtain ⟨k, hk, rfl, hf, hb⟩ := hrel
    by_cases hlt : k < n
    · rcases HS.out with h | ⟨b, off, rfl, hbs, hc⟩
      · subst h; simp only [List.length_nil] at hle; omega
      · have hck := (hb.cell (p := ⟨b, off + k, none⟩) hbs).trans (hc k (by omega))
        obtain ⟨v0, hv0⟩ := hf.cell k hlt
        have hfr := hf.free k
        have hst := hf.store (by omega) hlt
        clear hc
        go_wp2
        go_roundw
        case rel => exact ⟨k + 1, by omega, by go_num, hst, hb.setCell (p := ⟨w.heap.size, k, none⟩) (Nat.le_refl _) _⟩
        case measure => simp [intOf]; omega
    · go_wp2
      go_ret
      have hkn : k = n := by omega
      subst hkn
      refine ⟨w.heap.size, by rw [HN.out]; rfl, rfl, ?_, hb⟩
      rw [HN.out]; exact hf

/-- What eqStringS hands back at equal lists. -/
def EqPost (w : World) (e : Ending) (w' : World) : Prop := e = .returned (.bool true) ∧ ∃ m, w' = w.drewN m

set_option maxRecDepth 100000 in
set_option maxHeartbeats 1000000 in
theorem eq_any (A B : Option Addr) (n c d : Nat) (xs : List ByteArray) (w : World) (hn : xs.length = n) (h : StrsAt w A xs) (h' : StrsAt w B xs) (hl : n ≤ 1048576) :
    Calls Try.prog 46 #[.slice A n c, .slice B n d] w (EqPost w) := by
  have hge := Nat.le_of_eq hn
  have hle := Nat.le_of_eq hn.symm
  have HS := Lib.hid h
  have HS' := Lib.hid h'
  clear hn h h'
  go_enter Try.func46, Try.ntmps46
  go_wp2
  go_loopw [5] (fun i wr => ∃ k m : Nat, k ≤ n ∧ i = .int .i64 k ∧ wr = w.drewN m) (fun i _ => n - (intOf i).toNat)
  case atStart => exact ⟨0, 0, by omega, rfl, rfl⟩
  case round =>
    obtain ⟨k, m, hk, rfl, rfl⟩ := hrel
    by_cases hlt : k < n
    · rcases HS.out with h | ⟨b, off, rfl, hbs, hc⟩
      · subst h; simp only [List.length_nil] at hle; omega
      · rcases HS'.out with h | ⟨b', off', rfl, hbs', hc'⟩
        · subst h; simp only [List.length_nil] at hle; omega
        · have hck := hc k (by omega)
          have hck' := hc' k (by omega)
          have hk0 : (0 : Int) ≤ (k : Int) := by omega
          have hkn : (k : Int) < (n : Int) := by omega
          clear hc hc'
          go_wp2_with fail
          go_quiet (fail)
          go_wp2
          go_roundw
          case rel => exact ⟨k + 1, m + nq, by omega, by go_num, rfl⟩
          case measure => simp [intOf]; omega
    · go_wp2
      go_ret
      exact ⟨rfl, m, rfl⟩
end Go.Proofs.Ytodfefaknclemaa
