/-
  Contracts for copies of homes and letters: l1Own, l7OwnL of the model, slices.Clone of the program.
-/
import Derived.Test.YtojplmjoipjabaaNtMem
import Derived.Test.YtojplmjoipjabaaCopy
import Derived.Laws.Cover3
namespace Go.Proofs.Ytojplmjoipjabaa.Nt
open Go.RowKit
set_option linter.unusedVariables false
set_option linter.unusedSimpArgs false

/-- A copy in memory of its own. -/
def CopyI (is : List Int) (n : Nat) (w : World) (e : Ending) (w' : World) : Prop :=
  ∃ A c, e = .returned (.slice A n c) ∧ OwnI w' w.heap.size w'.heap.size A c is ∧ Below w.heap.size w w'
def CopyL (ls : List (Int × Int × Int × ByteArray)) (n : Nat) (w : World) (e : Ending) (w' : World) : Prop :=
  ∃ A c, e = .returned (.slice A n c) ∧ OwnL w' w.heap.size w'.heap.size A c ls ∧ Below w.heap.size w w'
theorem ints_src {w : World} {B n : Nat} {A : Option Addr} {is : List Int} (h : IntsB w B A is) (hn : is.length = n) (h0 : 0 < n) : ∃ ad, A = some ad ∧ ∀ j u, ((is.map intCs).flatten)[j]? = some u → w.cell? (ad.add j) = some u := by
  obtain ⟨b, off, hA, _⟩ := h.get (by omega)
  subst hA
  exact ⟨_, rfl, row_src h (intCs_len _) (by decide)⟩
theorem lets_src {w : World} {B n : Nat} {A : Option Addr} {ls : List (Int × Int × Int × ByteArray)} (h : LetsB w B A ls) (hn : ls.length = n) (h0 : 0 < n) : ∃ ad, A = some ad ∧ ∀ j u, ((ls.map ltCs).flatten)[j]? = some u → w.cell? (ad.add j) = some u := by
  obtain ⟨b, off, hA, _⟩ := h.get (by omega)
  subst hA
  exact ⟨_, rfl, row_src h (ltCs_len _) (by decide)⟩

set_option maxHeartbeats 1000000 in
theorem l1Own_any (A : Option Addr) (n c : Nat) (is : List Int) (B : Nat) (w : World) (hn : is.length = n) (h : IntsB w B A is) (hB : B ≤ w.heap.size) (hl : n ≤ 2000000) :
    Calls Try.prog 71 #[.slice A n c] w (CopyI is n w) := by
  obtain ⟨i0, hi, hz0, hz1, hz2⟩ := info_parts infoInt
  have HO := Lib.hid (own_empty w w.heap.size 3 1 (Nat.le_refl _))
  have HSRC := Lib.hid (ints_src (h.below ((below1 w (.cells #[] 3)).mono hB)) hn)
  have HLEN := Lib.hid (show ((is.map intCs).flatten).length = n * 1 by rw [flat_len (intCs_len _), List.length_map, hn])
  have HONE := Lib.hid (intCs_one is)
  have HN := Lib.hid hn
  clear h hn
  go_enter Try.func71, Try.ntmps71
  go_wp2_with (at_builtin; refine wpList_app rfl (.tmp 3) (.tmp 4) 23 rfl w.heap.size 3 i0 _ 1 8 Try.underlying23 hi hz0 hz1 hz2 rfl (by decide) (.slice (some ⟨w.heap.size, 0, none⟩) 0 0) 0 [] rfl HO.out A n c ((is.map intCs).flatten) rfl HLEN.out HSRC.out HONE.out (by unfold maxLen; omega) (by omega) (by simp) ?_; intro v1 w1 hown1 hgr1 _; have hx := Own.ofRow (w := w1) (lo := w.heap.size) (t := 3) (sz := 1) (n := n) (v := v1) (L := is.map intCs) (hi := w1.heap.size) (by simpa using hown1) (intCs_len _) (by decide) (fun k hk => (hown1.lt k hk).2); obtain ⟨A1, c1, rfl, _, ho⟩ := hx; rw [List.length_map, HN.out])
  have HB := Lib.hid ((below1 w (.cells #[] 3)).grown hgr1 (by simp) (fun k hk => by simp [Value.ownBlock] at hk; omega))
  have HOW := Lib.hid ho
  clear hown1 hgr1 ho
  go_ret
  exact ⟨_, _, rfl, HOW.out, HB.out⟩

set_option maxHeartbeats 1000000 in
theorem l7OwnL_any (A : Option Addr) (n c : Nat) (ls : List (Int × Int × Int × ByteArray)) (B : Nat) (w : World) (hn : ls.length = n) (h : LetsB w B A ls) (hB : B ≤ w.heap.size) (hl : n ≤ 2000000) :
    Calls Try.prog 84 #[.slice A n c] w (CopyL ls n w) := by
  obtain ⟨i0, hi, hz0, hz1, hz2⟩ := info_parts infoLet
  have HO := Lib.hid (own_empty w w.heap.size 66 4 (Nat.le_refl _))
  have HSRC := Lib.hid (lets_src (h.below ((below1 w (.cells #[] 66)).mono hB)) hn)
  have HLEN := Lib.hid (show ((ls.map ltCs).flatten).length = n * 4 by rw [flat_len (ltCs_len _), List.length_map, hn])
  have HONE := Lib.hid (ltCs_one ls)
  have HN := Lib.hid hn
  clear h hn
  go_enter Try.func84, Try.ntmps84
  go_wp2_with (at_builtin; refine wpList_app rfl (.tmp 3) (.tmp 4) 33 rfl w.heap.size 66 i0 _ 4 40 Try.underlying33 hi hz0 hz1 hz2 rfl (by decide) (.slice (some ⟨w.heap.size, 0, none⟩) 0 0) 0 [] rfl HO.out A n c ((ls.map ltCs).flatten) rfl HLEN.out HSRC.out HONE.out (by unfold maxLen; omega) (by omega) (by simp) ?_; intro v1 w1 hown1 hgr1 _; have hx := Own.ofRow (w := w1) (lo := w.heap.size) (t := 66) (sz := 4) (n := n) (v := v1) (L := ls.map ltCs) (hi := w1.heap.size) (by simpa using hown1) (ltCs_len _) (by decide) (fun k hk => (hown1.lt k hk).2); obtain ⟨A1, c1, rfl, _, ho⟩ := hx; rw [List.length_map, HN.out])
  have HB := Lib.hid ((below1 w (.cells #[] 66)).grown hgr1 (by simp) (fun k hk => by simp [Value.ownBlock] at hk; omega))
  have HOW := Lib.hid ho
  clear hown1 hgr1 ho
  go_ret
  exact ⟨_, _, rfl, HOW.out, HB.out⟩

set_option maxHeartbeats 1000000 in
theorem cloneI_any (A : Option Addr) (n c : Nat) (is : List Int) (B : Nat) (w : World) (hn : is.length = n) (h : IntsB w B A is) (hB : B ≤ w.heap.size) (hl : n ≤ 2000000) :
    Calls Try.prog 110 #[.slice A n c] w (CopyI is n w) := by
  obtain ⟨i0, hi, hz0, hz1, hz2⟩ := info_parts infoInt
  have heq := fun (ad : Option Addr) (W : World) => show (binOp .eql 23 (.slice ad n c) (.slice none 0 0)).run Try.prog W = .ok (.bool ad.isNone) W by
    simp only [binOp]
    simp [run_equal_slice_nil W 23 3 ad n c Try.underlying23]
  cases A with
  | none =>
    have h0 : is = [] := by
      rcases h with h | ⟨b, off, hA, _⟩
      · simpa using h
      · cases hA
    subst h0
    simp only [List.length_nil] at hn
    subst hn
    have heq := heq none
    simp only [Option.isNone_none] at heq
    have hc : (Value.slice none 0 c) = .slice none 0 c := rfl
    go_enter Try.func110, Try.ntmps110
    go_wp2
    go_ret
    exact ⟨_, _, rfl, .inl ⟨rfl, rfl, rfl⟩, Below.refl _ _⟩
  | some ad =>
    have heq := heq (some ad)
    simp only [Option.isNone_some] at heq
    have HO := Lib.hid (own_empty w w.heap.size 3 1 (Nat.le_refl _))
    have HSRC := Lib.hid (ints_src (h.below ((below1 w (.cells #[] 3)).mono hB)) hn)
    have HLEN := Lib.hid (show ((is.map intCs).flatten).length = n * 1 by rw [flat_len (intCs_len _), List.length_map, hn])
    have HONE := Lib.hid (intCs_one is)
    have HN := Lib.hid hn
    clear h hn
    go_enter Try.func110, Try.ntmps110
    go_wp2_with (at_builtin; refine wpList_app rfl (.tmp 5) (.tmp 6) 23 rfl w.heap.size 3 i0 _ 1 8 Try.underlying23 hi hz0 hz1 hz2 rfl (by decide) (.slice (some ⟨w.heap.size, 0, none⟩) 0 0) 0 [] rfl HO.out (some ad) n c ((is.map intCs).flatten) rfl HLEN.out HSRC.out HONE.out (by unfold maxLen; omega) (by omega) (by simp) ?_; intro v1 w1 hown1 hgr1 _; have hx := Own.ofRow (w := w1) (lo := w.heap.size) (t := 3) (sz := 1) (n := n) (v := v1) (L := is.map intCs) (hi := w1.heap.size) (by simpa using hown1) (intCs_len _) (by decide) (fun k hk => (hown1.lt k hk).2); obtain ⟨A1, c1, rfl, _, ho⟩ := hx; rw [List.length_map, HN.out])
    have HB := Lib.hid ((below1 w (.cells #[] 3)).grown hgr1 (by simp) (fun k hk => by simp [Value.ownBlock] at hk; omega))
    have HOW := Lib.hid ho
    clear hown1 hgr1 ho
    go_ret
    exact ⟨_, _, rfl, HOW.out, HB.out⟩

set_option maxHeartbeats 1000000 in
theorem cloneL_any (A : Option Addr) (n c : Nat) (ls : List (Int × Int × Int × ByteArray)) (B : Nat) (w : World) (hn : ls.length = n) (h : LetsB w B A ls) (hB : B ≤ w.heap.size) (hl : n ≤ 2000000) :
    Calls Try.prog 111 #[.slice A n c] w (CopyL ls n w) := by
  obtain ⟨i0, hi, hz0, hz1, hz2⟩ := info_parts infoLet
  have heq := fun (ad : Option Addr) (W : World) => show (binOp .eql 33 (.slice ad n c) (.slice none 0 0)).run Try.prog W = .ok (.bool ad.isNone) W by
    simp only [binOp]
    simp [run_equal_slice_nil W 33 66 ad n c Try.underlying33]
  cases A with
  | none =>
    have h0 : ls = [] := by
      rcases h with h | ⟨b, off, hA, _⟩
      · simpa using h
      · cases hA
    subst h0
    simp only [List.length_nil] at hn
    subst hn
    have heq := heq none
    simp only [Option.isNone_none] at heq
    have hc : (Value.slice none 0 c) = .slice none 0 c := rfl
    go_enter Try.func111, Try.ntmps111
    go_wp2
    go_ret
    exact ⟨_, _, rfl, .inl ⟨rfl, rfl, rfl⟩, Below.refl _ _⟩
  | some ad =>
    have heq := heq (some ad)
    simp only [Option.isNone_some] at heq
    have HO := Lib.hid (own_empty w w.heap.size 66 4 (Nat.le_refl _))
    have HSRC := Lib.hid (lets_src (h.below ((below1 w (.cells #[] 66)).mono hB)) hn)
    have HLEN := Lib.hid (show ((ls.map ltCs).flatten).length = n * 4 by rw [flat_len (ltCs_len _), List.length_map, hn])
    have HONE := Lib.hid (ltCs_one ls)
    have HN := Lib.hid hn
    clear h hn
    go_enter Try.func111, Try.ntmps111
    go_wp2_with (at_builtin; refine wpList_app rfl (.tmp 5) (.tmp 6) 33 rfl w.heap.size 66 i0 _ 4 40 Try.underlying33 hi hz0 hz1 hz2 rfl (by decide) (.slice (some ⟨w.heap.size, 0, none⟩) 0 0) 0 [] rfl HO.out (some ad) n c ((ls.map ltCs).flatten) rfl HLEN.out HSRC.out HONE.out (by unfold maxLen; omega) (by omega) (by simp) ?_; intro v1 w1 hown1 hgr1 _; have hx := Own.ofRow (w := w1) (lo := w.heap.size) (t := 66) (sz := 4) (n := n) (v := v1) (L := ls.map ltCs) (hi := w1.heap.size) (by simpa using hown1) (ltCs_len _) (by decide) (fun k hk => (hown1.lt k hk).2); obtain ⟨A1, c1, rfl, _, ho⟩ := hx; rw [List.length_map, HN.out])
    have HB := Lib.hid ((below1 w (.cells #[] 66)).grown hgr1 (by simp) (fun k hk => by simp [Value.ownBlock] at hk; omega))
    have HOW := Lib.hid ho
    clear hown1 hgr1 ho
    go_ret
    exact ⟨_, _, rfl, HOW.out, HB.out⟩
end Go.Proofs.Ytojplmjoipjabaa.Nt
