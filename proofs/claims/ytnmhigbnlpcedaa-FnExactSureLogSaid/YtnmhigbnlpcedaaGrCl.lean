/-
  slices.Clone over strings, writes, entries and replicas.
-/
import Derived.Test.YtnmhigbnlpcedaaGrMem
import Derived.Test.YtnmhigbnlpcedaaApp
import Derived.Test.YtnmhigbnlpcedaaCopy
import Derived.Laws.Cover3
namespace Go.Proofs.Ytnmhigbnlpcedaa.Gr
open Go.RowKit CM
set_option linter.unusedVariables false
set_option linter.unusedSimpArgs false

/-- A row copied: what its elements point to is still shared. -/
def CopyX (t : TypeId) (sz : Nat) (L : List (List Value)) (n : Nat) (w : World) (e : Ending) (w' : World) : Prop :=
  ∃ A c, e = .returned (.slice A n c) ∧ Own w' w.heap.size w'.heap.size t sz A c L ∧ Below w.heap.size w w'
theorem enCs_len (hs : List EH) : ∀ x ∈ hs.map enCs, x.length = 8 := cs_len KE hs
theorem rpCs_len (hs : List RH) : ∀ x ∈ hs.map rpCs, x.length = 3 := cs_len KR hs
theorem strCs_one (ls : List ByteArray) : ∀ u ∈ (ls.map strCs).flatten, u.oneCell' = true := by
  intro u hu
  obtain ⟨l, hl, hu⟩ := List.mem_flatten.1 hu
  obtain ⟨v, _, rfl⟩ := List.mem_map.1 hl
  simp [strCs] at hu
  subst hu; rfl
theorem wrCs_one2 (ls : List (ByteArray × ByteArray × Bool)) : ∀ u ∈ (ls.map wrCs).flatten, u.oneCell' = true := by
  intro u hu
  obtain ⟨l, hl, hu⟩ := List.mem_flatten.1 hu
  obtain ⟨v, _, rfl⟩ := List.mem_map.1 hl
  simp [wrCs] at hu
  rcases hu with rfl | rfl | rfl <;> rfl
theorem enCs_one (ls : List EH) : ∀ u ∈ (ls.map enCs).flatten, u.oneCell' = true := by
  intro u hu
  obtain ⟨l, hl, hu⟩ := List.mem_flatten.1 hu
  obtain ⟨v, _, rfl⟩ := List.mem_map.1 hl
  simp [enCs] at hu
  rcases hu with rfl | rfl | rfl | rfl | rfl | rfl | rfl | rfl <;> rfl
theorem rpCs_one (ls : List RH) : ∀ u ∈ (ls.map rpCs).flatten, u.oneCell' = true := by
  intro u hu
  obtain ⟨l, hl, hu⟩ := List.mem_flatten.1 hu
  obtain ⟨v, _, rfl⟩ := List.mem_map.1 hl
  simp [rpCs] at hu
  rcases hu with rfl | rfl | rfl <;> rfl
theorem strs_src {w : World} {B n : Nat} {A : Option Addr} {ls : List ByteArray} (h : StrsB w B A ls) (hn : ls.length = n) (h0 : 0 < n) : ∃ ad, A = some ad ∧ ∀ j u, ((ls.map strCs).flatten)[j]? = some u → w.cell? (ad.add j) = some u := by
  obtain ⟨b, off, hA, _⟩ := h.get (by omega)
  subst hA
  exact ⟨_, rfl, row_src h (strCs_len _) (by decide)⟩
theorem wrs_src {w : World} {B n : Nat} {A : Option Addr} {ls : List (ByteArray × ByteArray × Bool)} (h : WritesB w B A ls) (hn : ls.length = n) (h0 : 0 < n) : ∃ ad, A = some ad ∧ ∀ j u, ((ls.map wrCs).flatten)[j]? = some u → w.cell? (ad.add j) = some u := by
  obtain ⟨b, off, hA, _⟩ := h.get (by omega)
  subst hA
  exact ⟨_, rfl, row_src h (wrCs_len _) (by decide)⟩
theorem ens_src {w : World} {B n : Nat} {A : Option Addr} {ls : List EH} (h : RowsB KE w B A ls) (hn : ls.length = n) (h0 : 0 < n) : ∃ ad, A = some ad ∧ ∀ j u, ((ls.map enCs).flatten)[j]? = some u → w.cell? (ad.add j) = some u := by
  obtain ⟨b, off, hA, _⟩ := RowsB.get h (by omega)
  subst hA
  exact ⟨_, rfl, row_src h.1 (cs_len KE _) (by decide)⟩
theorem rps_src {w : World} {B n : Nat} {A : Option Addr} {ls : List RH} (h : RowsB KR w B A ls) (hn : ls.length = n) (h0 : 0 < n) : ∃ ad, A = some ad ∧ ∀ j u, ((ls.map rpCs).flatten)[j]? = some u → w.cell? (ad.add j) = some u := by
  obtain ⟨b, off, hA, _⟩ := RowsB.get h (by omega)
  subst hA
  exact ⟨_, rfl, row_src h.1 (cs_len KR _) (by decide)⟩
set_option maxHeartbeats 1000000 in
theorem cloneS_any (A : Option Addr) (n c : Nat) (ls : List ByteArray) (B : Nat) (w : World) (hn : ls.length = n) (h : StrsB w B A ls) (hB : B ≤ w.heap.size) (hl : n ≤ 2000000) :
    Calls Try.prog 131 #[.slice A n c] w (CopyX 9 1 (ls.map strCs) n w) := by
  unfold CopyX
  obtain ⟨i0, hi, hz0, hz1, hz2⟩ := info_parts infoStr
  have heq := fun (ad : Option Addr) (W : World) => show (binOp .eql 39 (.slice ad n c) (.slice none 0 0)).run Try.prog W = .ok (.bool ad.isNone) W by
    simp only [binOp]
    simp [run_equal_slice_nil W 39 9 ad n c Try.underlying39]
  cases A with
  | none =>
    have h0 : ls = [] := by
      rcases h with h | ⟨b, off, hA, _⟩
      · simpa using h
      · cases hA
    subst h0
    simp only [List.length_nil] at hn
    subst hn
    have heq := heq none
    simp only [Option.isNone_none] at heq
    have hc : (Value.slice none 0 c) = .slice none 0 c := rfl
    go_enter Try.func131, Try.ntmps131
    go_wp2
    go_ret
    exact ⟨_, _, rfl, .inl ⟨rfl, rfl, rfl⟩, Below.refl _ _⟩
  | some ad =>
    have heq := heq (some ad)
    simp only [Option.isNone_some] at heq
    have HO := Lib.hid (own_empty w w.heap.size 9 1 (Nat.le_refl _))
    have HSRC := Lib.hid (strs_src (h.below ((below1 w (.cells #[] 9)).mono hB)) hn)
    have HLEN := Lib.hid (show ((ls.map strCs).flatten).length = n * 1 by rw [flat_len (strCs_len _), List.length_map, hn])
    have HONE := Lib.hid (strCs_one ls)
    have HN := Lib.hid hn
    clear h hn
    go_enter Try.func131, Try.ntmps131
    go_wp2_with (at_builtin; refine wpList_app rfl (.tmp 5) (.tmp 6) 39 rfl w.heap.size 9 i0 _ 1 16 Try.underlying39 hi hz0 hz1 hz2 rfl (by decide) (.slice (some ⟨w.heap.size, 0, none⟩) 0 0) 0 [] rfl HO.out (some ad) n c ((ls.map strCs).flatten) rfl HLEN.out HSRC.out HONE.out (by unfold maxLen; omega) (by omega) (by simp) ?_; intro v1 w1 hown1 hgr1 _; have hx := Own.ofRow (w := w1) (lo := w.heap.size) (t := 9) (sz := 1) (n := n) (v := v1) (L := ls.map strCs) (hi := w1.heap.size) (by simpa using hown1) (strCs_len _) (by decide) (fun k hk => (hown1.lt k hk).2); obtain ⟨A1, c1, rfl, _, ho⟩ := hx; rw [List.length_map, HN.out])
    have HB := Lib.hid ((below1 w (.cells #[] 9)).grown hgr1 (by simp) (fun k hk => by simp [Value.ownBlock] at hk; omega))
    have HOW := Lib.hid ho
    clear hown1 hgr1 ho
    go_ret
    exact ⟨_, _, rfl, HOW.out, HB.out⟩

set_option maxHeartbeats 1000000 in
theorem cloneW_any (A : Option Addr) (n c : Nat) (ls : List (ByteArray × ByteArray × Bool)) (B : Nat) (w : World) (hn : ls.length = n) (h : WritesB w B A ls) (hB : B ≤ w.heap.size) (hl : n ≤ 2000000) :
    Calls Try.prog 132 #[.slice A n c] w (CopyX 108 3 (ls.map wrCs) n w) := by
  unfold CopyX
  obtain ⟨i0, hi, hz0, hz1, hz2⟩ := info_parts infoWrite
  have heq := fun (ad : Option Addr) (W : World) => show (binOp .eql 45 (.slice ad n c) (.slice none 0 0)).run Try.prog W = .ok (.bool ad.isNone) W by
    simp only [binOp]
    simp [run_equal_slice_nil W 45 108 ad n c Try.underlying45]
  cases A with
  | none =>
    have h0 : ls = [] := by
      rcases h with h | ⟨b, off, hA, _⟩
      · simpa using h
      · cases hA
    subst h0
    simp only [List.length_nil] at hn
    subst hn
    have heq := heq none
    simp only [Option.isNone_none] at heq
    have hc : (Value.slice none 0 c) = .slice none 0 c := rfl
    go_enter Try.func132, Try.ntmps132
    go_wp2
    go_ret
    exact ⟨_, _, rfl, .inl ⟨rfl, rfl, rfl⟩, Below.refl _ _⟩
  | some ad =>
    have heq := heq (some ad)
    simp only [Option.isNone_some] at heq
    have HO := Lib.hid (own_empty w w.heap.size 108 3 (Nat.le_refl _))
    have HSRC := Lib.hid (wrs_src (h.below ((below1 w (.cells #[] 108)).mono hB)) hn)
    have HLEN := Lib.hid (show ((ls.map wrCs).flatten).length = n * 3 by rw [flat_len (wrCs_len _), List.length_map, hn])
    have HONE := Lib.hid (wrCs_one2 ls)
    have HN := Lib.hid hn
    clear h hn
    go_enter Try.func132, Try.ntmps132
    go_wp2_with (at_builtin; refine wpList_app rfl (.tmp 5) (.tmp 6) 45 rfl w.heap.size 108 i0 _ 3 40 Try.underlying45 hi hz0 hz1 hz2 rfl (by decide) (.slice (some ⟨w.heap.size, 0, none⟩) 0 0) 0 [] rfl HO.out (some ad) n c ((ls.map wrCs).flatten) rfl HLEN.out HSRC.out HONE.out (by unfold maxLen; omega) (by omega) (by simp) ?_; intro v1 w1 hown1 hgr1 _; have hx := Own.ofRow (w := w1) (lo := w.heap.size) (t := 108) (sz := 3) (n := n) (v := v1) (L := ls.map wrCs) (hi := w1.heap.size) (by simpa using hown1) (wrCs_len _) (by decide) (fun k hk => (hown1.lt k hk).2); obtain ⟨A1, c1, rfl, _, ho⟩ := hx; rw [List.length_map, HN.out])
    have HB := Lib.hid ((below1 w (.cells #[] 108)).grown hgr1 (by simp) (fun k hk => by simp [Value.ownBlock] at hk; omega))
    have HOW := Lib.hid ho
    clear hown1 hgr1 ho
    go_ret
    exact ⟨_, _, rfl, HOW.out, HB.out⟩

set_option maxHeartbeats 1000000 in
theorem cloneE_any (A : Option Addr) (n c : Nat) (ls : List EH) (B : Nat) (w : World) (hn : ls.length = n) (h : RowsB KE w B A ls) (hB : B ≤ w.heap.size) (hl : n ≤ 2000000) :
    Calls Try.prog 112 #[.slice A n c] w (CopyX 78 8 (ls.map enCs) n w) := by
  unfold CopyX
  obtain ⟨i0, hi, hz0, hz1, hz2⟩ := info_parts infoEnt
  have heq := fun (ad : Option Addr) (W : World) => show (binOp .eql 53 (.slice ad n c) (.slice none 0 0)).run Try.prog W = .ok (.bool ad.isNone) W by
    simp only [binOp]
    simp [run_equal_slice_nil W 53 78 ad n c Try.underlying53]
  cases A with
  | none =>
    have h0 : ls = [] := by
      rcases h.1 with h | ⟨b, off, hA, _⟩
      · simpa using h
      · cases hA
    subst h0
    simp only [List.length_nil] at hn
    subst hn
    have heq := heq none
    simp only [Option.isNone_none] at heq
    have hc : (Value.slice none 0 c) = .slice none 0 c := rfl
    go_enter Try.func112, Try.ntmps112
    go_wp2
    go_ret
    exact ⟨_, _, rfl, .inl ⟨rfl, rfl, rfl⟩, Below.refl _ _⟩
  | some ad =>
    have heq := heq (some ad)
    simp only [Option.isNone_some] at heq
    have HO := Lib.hid (own_empty w w.heap.size 78 8 (Nat.le_refl _))
    have HSRC := Lib.hid (ens_src (h.below ((below1 w (.cells #[] 78)).mono hB)) hn)
    have HLEN := Lib.hid (show ((ls.map enCs).flatten).length = n * 8 by rw [flat_len (enCs_len _), List.length_map, hn])
    have HONE := Lib.hid (enCs_one ls)
    have HN := Lib.hid hn
    clear h hn
    go_enter Try.func112, Try.ntmps112
    go_wp2_with (at_builtin; refine wpList_app rfl (.tmp 5) (.tmp 6) 53 rfl w.heap.size 78 i0 _ 8 96 Try.underlying53 hi hz0 hz1 hz2 rfl (by decide) (.slice (some ⟨w.heap.size, 0, none⟩) 0 0) 0 [] rfl HO.out (some ad) n c ((ls.map enCs).flatten) rfl HLEN.out HSRC.out HONE.out (by unfold maxLen; omega) (by omega) (by simp) ?_; intro v1 w1 hown1 hgr1 _; have hx := Own.ofRow (w := w1) (lo := w.heap.size) (t := 78) (sz := 8) (n := n) (v := v1) (L := ls.map enCs) (hi := w1.heap.size) (by simpa using hown1) (enCs_len _) (by decide) (fun k hk => (hown1.lt k hk).2); obtain ⟨A1, c1, rfl, _, ho⟩ := hx; rw [List.length_map, HN.out])
    have HB := Lib.hid ((below1 w (.cells #[] 78)).grown hgr1 (by simp) (fun k hk => by simp [Value.ownBlock] at hk; omega))
    have HOW := Lib.hid ho
    clear hown1 hgr1 ho
    go_ret
    exact ⟨_, _, rfl, HOW.out, HB.out⟩

set_option maxHeartbeats 1000000 in
theorem cloneR_any (A : Option Addr) (n c : Nat) (ls : List RH) (B : Nat) (w : World) (hn : ls.length = n) (h : RowsB KR w B A ls) (hB : B ≤ w.heap.size) (hl : n ≤ 2000000) :
    Calls Try.prog 119 #[.slice A n c] w (CopyX 59 3 (ls.map rpCs) n w) := by
  unfold CopyX
  obtain ⟨i0, hi, hz0, hz1, hz2⟩ := info_parts infoRep
  have heq := fun (ad : Option Addr) (W : World) => show (binOp .eql 22 (.slice ad n c) (.slice none 0 0)).run Try.prog W = .ok (.bool ad.isNone) W by
    simp only [binOp]
    simp [run_equal_slice_nil W 22 59 ad n c Try.underlying22]
  cases A with
  | none =>
    have h0 : ls = [] := by
      rcases h.1 with h | ⟨b, off, hA, _⟩
      · simpa using h
      · cases hA
    subst h0
    simp only [List.length_nil] at hn
    subst hn
    have heq := heq none
    simp only [Option.isNone_none] at heq
    have hc : (Value.slice none 0 c) = .slice none 0 c := rfl
    go_enter Try.func119, Try.ntmps119
    go_wp2
    go_ret
    exact ⟨_, _, rfl, .inl ⟨rfl, rfl, rfl⟩, Below.refl _ _⟩
  | some ad =>
    have heq := heq (some ad)
    simp only [Option.isNone_some] at heq
    have HO := Lib.hid (own_empty w w.heap.size 59 3 (Nat.le_refl _))
    have HSRC := Lib.hid (rps_src (h.below ((below1 w (.cells #[] 59)).mono hB)) hn)
    have HLEN := Lib.hid (show ((ls.map rpCs).flatten).length = n * 3 by rw [flat_len (rpCs_len _), List.length_map, hn])
    have HONE := Lib.hid (rpCs_one ls)
    have HN := Lib.hid hn
    clear h hn
    go_enter Try.func119, Try.ntmps119
    go_wp2_with (at_builtin; refine wpList_app rfl (.tmp 5) (.tmp 6) 22 rfl w.heap.size 59 i0 _ 3 40 Try.underlying22 hi hz0 hz1 hz2 rfl (by decide) (.slice (some ⟨w.heap.size, 0, none⟩) 0 0) 0 [] rfl HO.out (some ad) n c ((ls.map rpCs).flatten) rfl HLEN.out HSRC.out HONE.out (by unfold maxLen; omega) (by omega) (by simp) ?_; intro v1 w1 hown1 hgr1 _; have hx := Own.ofRow (w := w1) (lo := w.heap.size) (t := 59) (sz := 3) (n := n) (v := v1) (L := ls.map rpCs) (hi := w1.heap.size) (by simpa using hown1) (rpCs_len _) (by decide) (fun k hk => (hown1.lt k hk).2); obtain ⟨A1, c1, rfl, _, ho⟩ := hx; rw [List.length_map, HN.out])
    have HB := Lib.hid ((below1 w (.cells #[] 59)).grown hgr1 (by simp) (fun k hk => by simp [Value.ownBlock] at hk; omega))
    have HOW := Lib.hid ho
    clear hown1 hgr1 ho
    go_ret
    exact ⟨_, _, rfl, HOW.out, HB.out⟩
end Go.Proofs.Ytnmhigbnlpcedaa.Gr
