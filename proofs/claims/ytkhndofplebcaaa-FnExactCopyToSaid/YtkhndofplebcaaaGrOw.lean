/-
  Copies of logs and groups in memory of their own: of the program and of the model.
-/
import Derived.Test.YtkhndofplebcaaaGrMem
import Derived.Test.YtkhndofplebcaaaApp
import Derived.Test.YtkhndofplebcaaaCopy
import Derived.Laws.Cover3
import Derived.Deep.RegionHeld3
import Derived.Deep.Cut
namespace Go.Proofs.Ytkhndofplebcaaa.Gr
open Go.RowKit CM
set_option linter.unusedVariables false
set_option linter.unusedSimpArgs false

/-- A row copied: what its elements point to is still shared. -/
def CopyX (t : TypeId) (sz : Nat) (L : List (List Value)) (n : Nat) (w : World) (e : Ending) (w' : World) : Prop :=
  ∃ A c, e = .returned (.slice A n c) ∧ Own w' w.heap.size w'.heap.size t sz A c L ∧ Below w.heap.size w w'
theorem enCs_len (hs : List EH) : ∀ x ∈ hs.map enCs, x.length = 8 := cs_len KE hs
theorem rpCs_len (hs : List RH) : ∀ x ∈ hs.map rpCs, x.length = 3 := cs_len KR hs
theorem strCs_one (ls : List ByteArray) : ∀ u ∈ (ls.map strCs).flatten, u.oneCell' = true := by
  intro u hu
  obtain ⟨l, hl, hu⟩ := List.mem_flatten.1 hu
  obtain ⟨v, _, rfl⟩ := List.mem_map.1 hl
  simp [strCs] at hu
  subst hu; rfl
theorem wrCs_one2 (ls : List (ByteArray × ByteArray × Bool)) : ∀ u ∈ (ls.map wrCs).flatten, u.oneCell' = true := by
  intro u hu
  obtain ⟨l, hl, hu⟩ := List.mem_flatten.1 hu
  obtain ⟨v, _, rfl⟩ := List.mem_map.1 hl
  simp [wrCs] at hu
  rcases hu with rfl | rfl | rfl <;> rfl
theorem enCs_one (ls : List EH) : ∀ u ∈ (ls.map enCs).flatten, u.oneCell' = true := by
  intro u hu
  obtain ⟨l, hl, hu⟩ := List.mem_flatten.1 hu
  obtain ⟨v, _, rfl⟩ := List.mem_map.1 hl
  simp [enCs] at hu
  rcases hu with rfl | rfl | rfl | rfl | rfl | rfl | rfl | rfl <;> rfl
theorem rpCs_one (ls : List RH) : ∀ u ∈ (ls.map rpCs).flatten, u.oneCell' = true := by
  intro u hu
  obtain ⟨l, hl, hu⟩ := List.mem_flatten.1 hu
  obtain ⟨v, _, rfl⟩ := List.mem_map.1 hl
  simp [rpCs] at hu
  rcases hu with rfl | rfl | rfl <;> rfl
theorem strs_src {w : World} {B n : Nat} {A : Option Addr} {ls : List ByteArray} (h : StrsB w B A ls) (hn : ls.length = n) (h0 : 0 < n) : ∃ ad, A = some ad ∧ ∀ j u, ((ls.map strCs).flatten)[j]? = some u → w.cell? (ad.add j) = some u := by
  obtain ⟨b, off, hA, _⟩ := h.get (by omega)
  subst hA
  exact ⟨_, rfl, row_src h (strCs_len _) (by decide)⟩
theorem wrs_src {w : World} {B n : Nat} {A : Option Addr} {ls : List (ByteArray × ByteArray × Bool)} (h : WritesB w B A ls) (hn : ls.length = n) (h0 : 0 < n) : ∃ ad, A = some ad ∧ ∀ j u, ((ls.map wrCs).flatten)[j]? = some u → w.cell? (ad.add j) = some u := by
  obtain ⟨b, off, hA, _⟩ := h.get (by omega)
  subst hA
  exact ⟨_, rfl, row_src h (wrCs_len _) (by decide)⟩
theorem ens_src {w : World} {B n : Nat} {A : Option Addr} {ls : List EH} (h : RowsB KE w B A ls) (hn : ls.length = n) (h0 : 0 < n) : ∃ ad, A = some ad ∧ ∀ j u, ((ls.map enCs).flatten)[j]? = some u → w.cell? (ad.add j) = some u := by
  obtain ⟨b, off, hA, _⟩ := RowsB.get h (by omega)
  subst hA
  exact ⟨_, rfl, row_src h.1 (cs_len KE _) (by decide)⟩
theorem rps_src {w : World} {B n : Nat} {A : Option Addr} {ls : List RH} (h : RowsB KR w B A ls) (hn : ls.length = n) (h0 : 0 < n) : ∃ ad, A = some ad ∧ ∀ j u, ((ls.map rpCs).flatten)[j]? = some u → w.cell? (ad.add j) = some u := by
  obtain ⟨b, off, hA, _⟩ := RowsB.get h (by omega)
  subst hA
  exact ⟨_, rfl, row_src h.1 (cs_len KR _) (by decide)⟩
set_option maxHeartbeats 1000000 in
theorem cloneS_any (A : Option Addr) (n c : Nat) (ls : List ByteArray) (B : Nat) (w : World) (hn : ls.length = n) (h : StrsB w B A ls) (hB : B ≤ w.heap.size) (hl : n ≤ 2000000) :
    Calls Try.prog 151 #[.slice A n c] w (CopyX 9 1 (ls.map strCs) n w) := by
  unfold CopyX
  obtain ⟨i0, hi, hz0, hz1, hz2⟩ := info_parts infoStr
  have heq := fun (ad : Option Addr) (W : World) => show (binOp .eql 22 (.slice ad n c) (.slice none 0 0)).run Try.prog W = .ok (.bool ad.isNone) W by
    simp only [binOp]
    simp [run_equal_slice_nil W 22 9 ad n c Try.underlying22]
  cases A with
  | none =>
    have h0 : ls = [] := by
      rcases h with h | ⟨b, off, hA, _⟩
      · simpa using h
      · cases hA
    subst h0
    simp only [List.length_nil] at hn
    subst hn
    have heq := heq none
    simp only [Option.isNone_none] at heq
    have hc : (Value.slice none 0 c) = .slice none 0 c := rfl
    go_enter Try.func151, Try.ntmps151
    go_wp2
    go_ret
    exact ⟨_, _, rfl, .inl ⟨rfl, rfl, rfl⟩, Below.refl _ _⟩
  | some ad =>
    have heq := heq (some ad)
    simp only [Option.isNone_some] at heq
    have HO := Lib.hid (own_empty w w.heap.size 9 1 (Nat.le_refl _))
    have HSRC := Lib.hid (strs_src (h.below ((below1 w (.cells #[] 9)).mono hB)) hn)
    have HLEN := Lib.hid (show ((ls.map strCs).flatten).length = n * 1 by rw [flat_len (strCs_len _), List.length_map, hn])
    have HONE := Lib.hid (strCs_one ls)
    have HN := Lib.hid hn
    clear h hn
    go_enter Try.func151, Try.ntmps151
    go_wp2_with (at_builtin; refine wpList_app rfl (.tmp 5) (.tmp 6) 22 rfl w.heap.size 9 i0 _ 1 16 Try.underlying22 hi hz0 hz1 hz2 rfl (by decide) (.slice (some ⟨w.heap.size, 0, none⟩) 0 0) 0 [] rfl HO.out (some ad) n c ((ls.map strCs).flatten) rfl HLEN.out HSRC.out HONE.out (by unfold maxLen; omega) (by omega) (by simp) ?_; intro v1 w1 hown1 hgr1 _; have hx := Own.ofRow (w := w1) (lo := w.heap.size) (t := 9) (sz := 1) (n := n) (v := v1) (L := ls.map strCs) (hi := w1.heap.size) (by simpa using hown1) (strCs_len _) (by decide) (fun k hk => (hown1.lt k hk).2); obtain ⟨A1, c1, rfl, _, ho⟩ := hx; rw [List.length_map, HN.out])
    have HB := Lib.hid ((below1 w (.cells #[] 9)).grown hgr1 (by simp) (fun k hk => by simp [Value.ownBlock] at hk; omega))
    have HOW := Lib.hid ho
    clear hown1 hgr1 ho
    go_ret
    exact ⟨_, _, rfl, HOW.out, HB.out⟩

set_option maxHeartbeats 1000000 in
theorem cloneW_any (A : Option Addr) (n c : Nat) (ls : List (ByteArray × ByteArray × Bool)) (B : Nat) (w : World) (hn : ls.length = n) (h : WritesB w B A ls) (hB : B ≤ w.heap.size) (hl : n ≤ 2000000) :
    Calls Try.prog 152 #[.slice A n c] w (CopyX 121 3 (ls.map wrCs) n w) := by
  unfold CopyX
  obtain ⟨i0, hi, hz0, hz1, hz2⟩ := info_parts infoWrite
  have heq := fun (ad : Option Addr) (W : World) => show (binOp .eql 31 (.slice ad n c) (.slice none 0 0)).run Try.prog W = .ok (.bool ad.isNone) W by
    simp only [binOp]
    simp [run_equal_slice_nil W 31 121 ad n c Try.underlying31]
  cases A with
  | none =>
    have h0 : ls = [] := by
      rcases h with h | ⟨b, off, hA, _⟩
      · simpa using h
      · cases hA
    subst h0
    simp only [List.length_nil] at hn
    subst hn
    have heq := heq none
    simp only [Option.isNone_none] at heq
    have hc : (Value.slice none 0 c) = .slice none 0 c := rfl
    go_enter Try.func152, Try.ntmps152
    go_wp2
    go_ret
    exact ⟨_, _, rfl, .inl ⟨rfl, rfl, rfl⟩, Below.refl _ _⟩
  | some ad =>
    have heq := heq (some ad)
    simp only [Option.isNone_some] at heq
    have HO := Lib.hid (own_empty w w.heap.size 121 3 (Nat.le_refl _))
    have HSRC := Lib.hid (wrs_src (h.below ((below1 w (.cells #[] 121)).mono hB)) hn)
    have HLEN := Lib.hid (show ((ls.map wrCs).flatten).length = n * 3 by rw [flat_len (wrCs_len _), List.length_map, hn])
    have HONE := Lib.hid (wrCs_one2 ls)
    have HN := Lib.hid hn
    clear h hn
    go_enter Try.func152, Try.ntmps152
    go_wp2_with (at_builtin; refine wpList_app rfl (.tmp 5) (.tmp 6) 31 rfl w.heap.size 121 i0 _ 3 40 Try.underlying31 hi hz0 hz1 hz2 rfl (by decide) (.slice (some ⟨w.heap.size, 0, none⟩) 0 0) 0 [] rfl HO.out (some ad) n c ((ls.map wrCs).flatten) rfl HLEN.out HSRC.out HONE.out (by unfold maxLen; omega) (by omega) (by simp) ?_; intro v1 w1 hown1 hgr1 _; have hx := Own.ofRow (w := w1) (lo := w.heap.size) (t := 121) (sz := 3) (n := n) (v := v1) (L := ls.map wrCs) (hi := w1.heap.size) (by simpa using hown1) (wrCs_len _) (by decide) (fun k hk => (hown1.lt k hk).2); obtain ⟨A1, c1, rfl, _, ho⟩ := hx; rw [List.length_map, HN.out])
    have HB := Lib.hid ((below1 w (.cells #[] 121)).grown hgr1 (by simp) (fun k hk => by simp [Value.ownBlock] at hk; omega))
    have HOW := Lib.hid ho
    clear hown1 hgr1 ho
    go_ret
    exact ⟨_, _, rfl, HOW.out, HB.out⟩

set_option maxHeartbeats 1000000 in
theorem cloneE_any (A : Option Addr) (n c : Nat) (ls : List EH) (B : Nat) (w : World) (hn : ls.length = n) (h : RowsB KE w B A ls) (hB : B ≤ w.heap.size) (hl : n ≤ 2000000) :
    Calls Try.prog 155 #[.slice A n c] w (CopyX 35 8 (ls.map enCs) n w) := by
  unfold CopyX
  obtain ⟨i0, hi, hz0, hz1, hz2⟩ := info_parts infoEnt
  have heq := fun (ad : Option Addr) (W : World) => show (binOp .eql 89 (.slice ad n c) (.slice none 0 0)).run Try.prog W = .ok (.bool ad.isNone) W by
    simp only [binOp]
    simp [run_equal_slice_nil W 89 35 ad n c Try.underlying89]
  cases A with
  | none =>
    have h0 : ls = [] := by
      rcases h.1 with h | ⟨b, off, hA, _⟩
      · simpa using h
      · cases hA
    subst h0
    simp only [List.length_nil] at hn
    subst hn
    have heq := heq none
    simp only [Option.isNone_none] at heq
    have hc : (Value.slice none 0 c) = .slice none 0 c := rfl
    go_enter Try.func155, Try.ntmps155
    go_wp2
    go_ret
    exact ⟨_, _, rfl, .inl ⟨rfl, rfl, rfl⟩, Below.refl _ _⟩
  | some ad =>
    have heq := heq (some ad)
    simp only [Option.isNone_some] at heq
    have HO := Lib.hid (own_empty w w.heap.size 35 8 (Nat.le_refl _))
    have HSRC := Lib.hid (ens_src (h.below ((below1 w (.cells #[] 35)).mono hB)) hn)
    have HLEN := Lib.hid (show ((ls.map enCs).flatten).length = n * 8 by rw [flat_len (enCs_len _), List.length_map, hn])
    have HONE := Lib.hid (enCs_one ls)
    have HN := Lib.hid hn
    clear h hn
    go_enter Try.func155, Try.ntmps155
    go_wp2_with (at_builtin; refine wpList_app rfl (.tmp 5) (.tmp 6) 89 rfl w.heap.size 35 i0 _ 8 96 Try.underlying89 hi hz0 hz1 hz2 rfl (by decide) (.slice (some ⟨w.heap.size, 0, none⟩) 0 0) 0 [] rfl HO.out (some ad) n c ((ls.map enCs).flatten) rfl HLEN.out HSRC.out HONE.out (by unfold maxLen; omega) (by omega) (by simp) ?_; intro v1 w1 hown1 hgr1 _; have hx := Own.ofRow (w := w1) (lo := w.heap.size) (t := 35) (sz := 8) (n := n) (v := v1) (L := ls.map enCs) (hi := w1.heap.size) (by simpa using hown1) (enCs_len _) (by decide) (fun k hk => (hown1.lt k hk).2); obtain ⟨A1, c1, rfl, _, ho⟩ := hx; rw [List.length_map, HN.out])
    have HB := Lib.hid ((below1 w (.cells #[] 35)).grown hgr1 (by simp) (fun k hk => by simp [Value.ownBlock] at hk; omega))
    have HOW := Lib.hid ho
    clear hown1 hgr1 ho
    go_ret
    exact ⟨_, _, rfl, HOW.out, HB.out⟩

set_option maxHeartbeats 1000000 in
theorem cloneR_any (A : Option Addr) (n c : Nat) (ls : List RH) (B : Nat) (w : World) (hn : ls.length = n) (h : RowsB KR w B A ls) (hB : B ≤ w.heap.size) (hl : n ≤ 2000000) :
    Calls Try.prog 150 #[.slice A n c] w (CopyX 91 3 (ls.map rpCs) n w) := by
  unfold CopyX
  obtain ⟨i0, hi, hz0, hz1, hz2⟩ := info_parts infoRep
  have heq := fun (ad : Option Addr) (W : World) => show (binOp .eql 43 (.slice ad n c) (.slice none 0 0)).run Try.prog W = .ok (.bool ad.isNone) W by
    simp only [binOp]
    simp [run_equal_slice_nil W 43 91 ad n c Try.underlying43]
  cases A with
  | none =>
    have h0 : ls = [] := by
      rcases h.1 with h | ⟨b, off, hA, _⟩
      · simpa using h
      · cases hA
    subst h0
    simp only [List.length_nil] at hn
    subst hn
    have heq := heq none
    simp only [Option.isNone_none] at heq
    have hc : (Value.slice none 0 c) = .slice none 0 c := rfl
    go_enter Try.func150, Try.ntmps150
    go_wp2
    go_ret
    exact ⟨_, _, rfl, .inl ⟨rfl, rfl, rfl⟩, Below.refl _ _⟩
  | some ad =>
    have heq := heq (some ad)
    simp only [Option.isNone_some] at heq
    have HO := Lib.hid (own_empty w w.heap.size 91 3 (Nat.le_refl _))
    have HSRC := Lib.hid (rps_src (h.below ((below1 w (.cells #[] 91)).mono hB)) hn)
    have HLEN := Lib.hid (show ((ls.map rpCs).flatten).length = n * 3 by rw [flat_len (rpCs_len _), List.length_map, hn])
    have HONE := Lib.hid (rpCs_one ls)
    have HN := Lib.hid hn
    clear h hn
    go_enter Try.func150, Try.ntmps150
    go_wp2_with (at_builtin; refine wpList_app rfl (.tmp 5) (.tmp 6) 43 rfl w.heap.size 91 i0 _ 3 40 Try.underlying43 hi hz0 hz1 hz2 rfl (by decide) (.slice (some ⟨w.heap.size, 0, none⟩) 0 0) 0 [] rfl HO.out (some ad) n c ((ls.map rpCs).flatten) rfl HLEN.out HSRC.out HONE.out (by unfold maxLen; omega) (by omega) (by simp) ?_; intro v1 w1 hown1 hgr1 _; have hx := Own.ofRow (w := w1) (lo := w.heap.size) (t := 91) (sz := 3) (n := n) (v := v1) (L := ls.map rpCs) (hi := w1.heap.size) (by simpa using hown1) (rpCs_len _) (by decide) (fun k hk => (hown1.lt k hk).2); obtain ⟨A1, c1, rfl, _, ho⟩ := hx; rw [List.length_map, HN.out])
    have HB := Lib.hid ((below1 w (.cells #[] 91)).grown hgr1 (by simp) (fun k hk => by simp [Value.ownBlock] at hk; omega))
    have HOW := Lib.hid ho
    clear hown1 hgr1 ho
    go_ret
    exact ⟨_, _, rfl, HOW.out, HB.out⟩

section
variable {w w' : World} {lo hi cap g sz : Nat} {t : TypeId} {L L1 L2 : List (List Value)} {x : List Value}
theorem own_cell (h : Own w lo hi t sz (some ⟨g, 0, none⟩) cap L) (k : Nat) (hk : k < L.length) (i : Nat) (hi' : i < sz) : w.cell? ⟨g, k * sz + i, none⟩ = L[k][i]? := by
  rcases h.row with h0 | ⟨b, off, hA, _, hc⟩
  · subst h0; simp at hk
  · injection hA with hA
    injection hA with hb ho
    subst hb ho
    have := hc k hk i hi'
    rwa [Nat.zero_add] at this
theorem own_at (h : Own w lo hi t sz (some ⟨g, 0, none⟩) cap (L1 ++ x :: L2)) (j : Nat) (hj : j = L1.length) (i : Nat) (hi' : i < sz) : w.cell? ⟨g, j * sz + i, none⟩ = x[i]? := by
  subst hj
  have := own_cell h L1.length (by simp) i hi'
  simpa using this
theorem own_free (h : Own w lo hi t sz (some ⟨g, 0, none⟩) cap L) (i : Nat) : w.frozen? ⟨g, i, none⟩ = false := by
  rcases h with ⟨_, h, _⟩ | ⟨g', cur, hA, _, _, hh, _⟩
  · cases h
  · injection hA with hA
    injection hA with hg
    subst hg
    simp [World.frozen?, hh]
/-- A part of one element stored. -/
theorem own_part (h : Own w lo hi t sz (some ⟨g, 0, none⟩) cap (L1 ++ x :: L2)) (y : List Value) (i : Nat) (us : List Value) (hus : i + us.length ≤ sz) (hy : ∀ q, q < sz → y[q]? = if i ≤ q ∧ q < i + us.length then us[q - i]? else x[q]?) (m : Nat) (hm : m = L1.length * sz + i) : Own (putN w g m us) lo hi t sz (some ⟨g, 0, none⟩) cap (L1 ++ y :: L2) := by
  rcases h with ⟨he, _⟩ | ⟨g', cur, hA, b1, b2, b3, b4, b5, b6, b7⟩
  · simp at he
  · injection hA with hA
    injection hA with hg
    subst hg
    have hsz : L1.length * sz + sz ≤ cap * sz := by
      have h1 : (L1.length + 1) * sz ≤ cap * sz := Nat.mul_le_mul_right _ (by simp at b4; omega)
      rw [Nat.add_mul, Nat.one_mul] at h1
      exact h1
    refine .inr ⟨g, putA cur m us, rfl, b1, b2, putN_blk b3 _ _, by simpa using b4, b5, by rw [putA_size]; exact b6, fun j hj q hq => ?_⟩
    have hj' : j < (L1 ++ x :: L2).length := by simpa using hj
    have h8 := b7 j hj' q hq
    by_cases hjm : j = L1.length
    · subst hjm
      have e1 : (L1 ++ y :: L2)[L1.length]'hj = y := by simp
      have e2 : (L1 ++ x :: L2)[L1.length]'hj' = x := by simp
      rw [e1, hy q hq]
      rw [e2] at h8
      split
      · rename_i hin
        have := putA_at cur m us (q - i) (by omega) (by omega)
        rw [show m + (q - i) = L1.length * sz + q by omega] at this
        exact this
      · rename_i hin
        rw [putA_low _ _ _ _ (by omega)]
        exact h8
    · have hout : j * sz + q < m ∨ m + us.length ≤ j * sz + q := by
        rcases Nat.lt_or_ge j L1.length with hl | hl
        · have := fill_idx j sz L1.length q hl hq; omega
        · have h9 : (L1.length + 1) * sz ≤ j * sz := Nat.mul_le_mul_right _ (by omega)
          rw [Nat.add_mul, Nat.one_mul] at h9
          omega
      rw [putA_low _ _ _ _ hout, h8]
      rcases Nat.lt_or_ge j L1.length with hl | hl
      · rw [List.getElem_append_left hl, List.getElem_append_left hl]
      · rw [List.getElem_append_right hl, List.getElem_append_right hl]
        obtain ⟨q', hq'⟩ : ∃ q', j - L1.length = q' + 1 := ⟨j - L1.length - 1, by omega⟩
        simp only [hq', List.getElem_cons_succ]
end

/-- What copyRec hands back. -/
def CopyRPost (kk tt xx ll : Int) (yy : Bool) (nr : Nat) (rs : List ByteArray) (nw : Nat) (ws : List (ByteArray × ByteArray × Bool)) (w : World) (e : Ending) (w' : World) : Prop :=
  ∃ A1 c1 A2 c2 m, e = .returned (.agg #[.int .i64 kk, .int .i64 tt, .int .i64 xx, .int .i64 ll, .slice A1 nr c1, .slice A2 nw c2, .bool yy]) ∧ OwnS w' w.heap.size m A1 c1 rs ∧ OwnW w' m w'.heap.size A2 c2 ws ∧ w.heap.size ≤ m ∧ m ≤ w'.heap.size ∧ Below w.heap.size w w'
set_option maxRecDepth 100000 in
set_option maxHeartbeats 2000000 in
theorem copyRec_any (kk tt xx ll : Int) (yy : Bool) (Ar : Option Addr) (nr cr : Nat) (rs : List ByteArray) (Aw : Option Addr) (nw cw : Nat) (ws : List (ByteArray × ByteArray × Bool)) (B : Nat) (w : World) (hnr : rs.length = nr) (hr : StrsB w B Ar rs) (hnw : ws.length = nw) (hw : WritesB w B Aw ws) (hB : B ≤ w.heap.size) (hlr : nr ≤ 1048576) (hlw : nw ≤ 1048576) :
    Calls Try.prog 117 #[.agg #[.int .i64 kk, .int .i64 tt, .int .i64 xx, .int .i64 ll, .slice Ar nr cr, .slice Aw nw cw, .bool yy]] w (CopyRPost kk tt xx ll yy nr rs nw ws w) := by
  have HS := Lib.hid (fun W (hW : Below w.heap.size w W) => cloneS_any Ar nr cr rs B W hnr (hr.below (hW.mono hB)) (Nat.le_trans hB hW.size) (by omega))
  have HW := Lib.hid (fun W (hW : Below w.heap.size w W) => cloneW_any Aw nw cw ws B W hnw (hw.below (hW.mono hB)) (Nat.le_trans hB hW.size) (by omega))
  have hb0 := below2 w (.cells #[.int .i64 kk, .int .i64 tt, .int .i64 xx, .int .i64 ll, .slice Ar nr cr, .slice Aw nw cw, .bool yy] 33) (.cells #[.int .i64 0, .int .i64 0, .int .i64 0, .int .i64 0, .slice none 0 0, .slice none 0 0, .bool false] 33)
  have ka := alloc2_a w (.cells #[.int .i64 kk, .int .i64 tt, .int .i64 xx, .int .i64 ll, .slice Ar nr cr, .slice Aw nw cw, .bool yy] 33) (.cells #[.int .i64 0, .int .i64 0, .int .i64 0, .int .i64 0, .slice none 0 0, .slice none 0 0, .bool false] 33)
  have kb := alloc2_b w (.cells #[.int .i64 kk, .int .i64 tt, .int .i64 xx, .int .i64 ll, .slice Ar nr cr, .slice Aw nw cw, .bool yy] 33) (.cells #[.int .i64 0, .int .i64 0, .int .i64 0, .int .i64 0, .slice none 0 0, .slice none 0 0, .bool false] 33)
  have HKA := Lib.hid ka
  have HKB := Lib.hid kb
  have HB0 := Lib.hid hb0
  clear hr hw hnr hnw hB hlr hlw ka kb hb0
  go_enter Try.func117, Try.ntmps117
  go_wp2_with fail
  (with_reducible refine (HS.out _ HB0.out).mono ?_)
  rintro e w1 ⟨A1, c1, rfl, ho1, hb1⟩
  have ka := (hb1.block w.heap.size (by simp; omega)).trans HKA.out
  have kb := (hb1.block (w.heap.size + 1) (by simp)).trans HKB.out
  have hz1 := hb1.size
  simp only [World.size_alloc] at hz1 ho1
  have hzA : w.heap.size < w1.heap.size := by omega
  have hzB : w.heap.size + 1 < w1.heap.size := by omega
  have a4 := cell_blk (i := 4) ka rfl
  have a5 := cell_blk (i := 5) ka rfl
  have fa := free_all ka
  have HB1 := Lib.hid (HB0.out.trans (hb1.mono HB0.out.size))
  have HO1 := Lib.hid ho1
  have HKA1 := Lib.hid ka
  have HKB1 := Lib.hid kb
  clear ka kb hb1 ho1
  go_wp2_with fail
  have hbs := HB1.out.setCell (p := ⟨w.heap.size, 4, none⟩) (Nat.le_refl _) (.slice A1 nr c1)
  (with_reducible refine (HW.out _ hbs).mono ?_)
  rintro e w2 ⟨A2, c2, rfl, ho2, hb2⟩
  clear a4 a5 fa
  have hz2 := hb2.size
  simp only [World.size_setCell] at hz2 ho2
  have ka := (hb2.block w.heap.size (by simp only [World.size_setCell]; omega)).trans (set_blk HKA1.out _)
  have kb := (hb2.block (w.heap.size + 1) (by simp only [World.size_setCell]; omega)).trans ((Below.heap_setCell _ _ _ _ (by simp)).trans HKB1.out)
  have a0 := cell_blk (i := 0) ka rfl
  have a1 := cell_blk (i := 1) ka rfl
  have a2 := cell_blk (i := 2) ka rfl
  have a3 := cell_blk (i := 3) ka rfl
  have a4 := cell_blk (i := 4) ka rfl
  have a5 := cell_blk (i := 5) ka rfl
  have a6 := cell_blk (i := 6) ka rfl
  have b0 := cell_blk (i := 0) kb rfl
  have b1 := cell_blk (i := 1) kb rfl
  have b2 := cell_blk (i := 2) kb rfl
  have b3 := cell_blk (i := 3) kb rfl
  have b4 := cell_blk (i := 4) kb rfl
  have b5 := cell_blk (i := 5) kb rfl
  have b6 := cell_blk (i := 6) kb rfl
  have fa := free_all ka
  have fb := free_all kb
  have hzA2 : w.heap.size < w2.heap.size := by omega
  have hzB2 : w.heap.size + 1 < w2.heap.size := by omega
  have HB2 := Lib.hid (hbs.trans (hb2.mono hbs.size))
  have HO1' := Lib.hid (Own.keep HO1.out ((keep_set (w := w1) (p := ⟨w.heap.size, 4, none⟩) (.inl (show w.heap.size < w.heap.size + 1 + 1 by omega)) (.slice A1 nr c1)).trans (keep_since hb2) (by simp)))
  have HO2 := Lib.hid ho2
  clear ka kb hb2 hbs ho2
  go_wp2
  have hk1 : ∀ lo2 hi2, w.heap.size + 1 < lo2 → Keep lo2 hi2 w2 (putN (w2.setCell ⟨w.heap.size, 5, none⟩ (.slice A2 nw c2)) (w.heap.size + 1) 0 [.int .i64 kk, .int .i64 tt, .int .i64 xx, .int .i64 ll, .slice A1 nr c1, .slice A2 nw c2, .bool yy]) := fun lo2 hi2 h => (keep_set (w := w2) (p := ⟨w.heap.size, 5, none⟩) (.inl (show w.heap.size < lo2 by omega)) _).trans (keep_putN (.inl h) _ _) (by simp)
  exact bodyPost_ret (v := .agg #[.int .i64 kk, .int .i64 tt, .int .i64 xx, .int .i64 ll, .slice A1 nr c1, .slice A2 nw c2, .bool yy]) (by simp [results, Try.results117, go_sem, *]) rfl ⟨A1, c1, A2, c2, w1.heap.size, rfl,
    (Own.keep HO1'.out (hk1 _ _ (by omega))).wider (by omega) (Nat.le_refl _),
    (Own.keep HO2.out (hk1 _ _ (by omega))).wider (Nat.le_refl _) (by simp [World.setCell]),
    by omega, by simp [World.setCell]; omega, below_putN (HB2.out.setCell (p := ⟨w.heap.size, 5, none⟩) (Nat.le_refl _) (.slice A2 nw c2)) (show w.heap.size ≤ w.heap.size + 1 by omega) 0 [.int .i64 kk, .int .i64 tt, .int .i64 xx, .int .i64 ll, .slice A1 nr c1, .slice A2 nw c2, .bool yy]⟩

/-- A log copied into memory of its own. -/
def CopyLPost (es : List EH) (n : Nat) (w : World) (e : Ending) (w' : World) : Prop :=
  ∃ A1 c1 gs, e = .returned (.slice A1 n c1) ∧ gs.map EH.d = es.map EH.d ∧ OwnK KE w' w.heap.size w'.heap.size A1 c1 gs ∧ Below w.heap.size w w'
set_option maxRecDepth 100000 in
set_option maxHeartbeats 4000000 in
theorem copyLog_any (A : Option Addr) (n c : Nat) (es : List EH) (B : Nat) (w : World) (hn : es.length = n) (h : RowsB KE w B A es) (hB : B ≤ w.heap.size) (hm : LgSmall (es.map EH.d)) :
    Calls Try.prog 123 #[.slice A n c] w (CopyLPost es n w) := by
  obtain ⟨hl, hms⟩ := hm
  have hnl : n ≤ 1048576 := by simp at hl; omega
  have HN := Lib.hid hn
  have HM := Lib.hid (fun e (he : e ∈ es) => hms e.d (List.mem_map_of_mem he))
  have HRD := Lib.hid (fun e (he : e ∈ es) => h.2 e he)
  have HC := Lib.hid (cloneE_any A n c es B w hn h hB (by omega))
  clear hn h hl hms
  go_enter Try.func123, Try.ntmps123
  go_wp2_with fail
  (with_reducible refine HC.out.mono ?_)
  rintro e w1 ⟨A1, c1, rfl, ho1, hb1⟩
  obtain ⟨s1, hs1⟩ : ∃ s, s = w1.heap.size := ⟨_, rfl⟩
  have HO1 := Lib.hid ho1
  have HB1 := Lib.hid hb1
  rw [← hs1] at HO1
  have hz1 : w.heap.size ≤ s1 := by rw [hs1]; exact hb1.size
  have hs1' : s1 ≤ w1.heap.size := by omega
  clear ho1 hb1 hs1
  go_wp2_with fail
  go_loopw [8] (fun j wr => ∃ (ds rt gs : List EH), Hid (es = ds ++ rt) ∧ Hid (gs.map EH.d = ds.map EH.d) ∧ j = .int .i64 ds.length ∧ Hid (Own wr w.heap.size s1 35 8 A1 c1 (gs.map enCs ++ rt.map enCs)) ∧ Hid (Nst KE wr s1 wr.heap.size A1 gs) ∧ Hid (Below w.heap.size w wr) ∧ s1 ≤ wr.heap.size) (fun j _ => n - (intOf j).toNat)
  case atStart => exact ⟨[], es, [], rfl, rfl, rfl, HO1, Nst.nil, HB1, hs1'⟩
  case round =>
    clear HO1 HB1 hs1'
    obtain ⟨ds, rt, gs, HS, HG, rfl, HO, HV, HB, hzr⟩ := hrel
    have hlen : ds.length + rt.length = n := by rw [← HN.out, HS.out, List.length_append]
    have HGL := Lib.hid (show ds.length = (gs.map enCs).length by rw [List.length_map, dats_len HG.out])
    obtain ⟨j, hj⟩ : ∃ j, j = ds.length := ⟨_, rfl⟩
    have HJ := Lib.hid hj
    rw [← hj] at hlen ⊢
    cases rt with
    | cons x t =>
      have hmx := HM.out x (by rw [HS.out]; simp)
      have hrx := HRD.out x (by rw [HS.out]; simp)
      obtain ⟨⟨tm, kk, tt, xx, ll, yy, rs, ws⟩, Ar, cr, Aw, cw, elo, em, ehi⟩ := x
      simp only [List.map_cons] at HO
      have hlt : j < n := by simp at hlen; omega
      obtain ⟨g, cur, rfl, hg1, hg2, _⟩ := HO.out.form (by simp; omega)
      have c1' := own_at HO.out j (hj.trans HGL.out) 1 (by decide)
      have c2' := own_at HO.out j (hj.trans HGL.out) 2 (by decide)
      have c3' := own_at HO.out j (hj.trans HGL.out) 3 (by decide)
      have c4' := own_at HO.out j (hj.trans HGL.out) 4 (by decide)
      have c5' := own_at HO.out j (hj.trans HGL.out) 5 (by decide)
      have c6' := own_at HO.out j (hj.trans HGL.out) 6 (by decide)
      have c7' := own_at HO.out j (hj.trans HGL.out) 7 (by decide)
      have hgw : g < wr.heap.size := Nat.lt_of_lt_of_le hg2 hzr
      have HR := Lib.hid (copyRec_any kk tt xx ll yy Ar rs.length cr rs Aw ws.length cw ws B wr rfl (hrx.1.below (HB.out.mono hB)) rfl (hrx.2.below (HB.out.mono hB)) (Nat.le_trans hB HB.out.size) hmx.1.1 hmx.2.1)
      have hG := Lib.hid (show w.heap.size ≤ g ∧ g < s1 from ⟨hg1, hg2⟩)
      have hj0 : (0 : Int) ≤ (j : Int) := by omega
      have hj1 : (j : Int) < (n : Int) := by omega
      obtain ⟨nr, hvnr⟩ : ∃ nr, nr = rs.length := ⟨_, rfl⟩
      obtain ⟨nw, hvnw⟩ : ∃ nw, nw = ws.length := ⟨_, rfl⟩
      have d1 : wr.cell? ⟨g, j * 8 + 1, none⟩ = some (.int .i64 kk) := c1'
      have d2 : wr.cell? ⟨g, j * 8 + 1 + 1, none⟩ = some (.int .i64 tt) := c2'
      have d3 : wr.cell? ⟨g, j * 8 + 1 + 2, none⟩ = some (.int .i64 xx) := c3'
      have d4 : wr.cell? ⟨g, j * 8 + 1 + 3, none⟩ = some (.int .i64 ll) := c4'
      have d5 : wr.cell? ⟨g, j * 8 + 1 + 4, none⟩ = some (.slice Ar rs.length cr) := c5'
      have d6 : wr.cell? ⟨g, j * 8 + 1 + 5, none⟩ = some (.slice Aw ws.length cw) := c6'
      have d7 : wr.cell? ⟨g, j * 8 + 1 + 6, none⟩ = some (.bool yy) := c7'
      rw [← hvnr] at HR d5
      rw [← hvnw] at HR d6
      have HVR := Lib.hid hvnr
      have HVW := Lib.hid hvnw
      clear hj hg1 hg2 hmx hrx c1' c2' c3' c4' c5' c6' c7' hvnr hvnw
      go_wp2_with fail
      (with_reducible refine HR.out.mono ?_)
      rintro e w4 ⟨B1, b1, B2, b2, m, rfl, hoS, hoW, hm1, hm2, hb4⟩
      have hO4 := HO.out.below (w' := w4) (hb4.mono hzr)
      have e1 := own_at hO4 j (HJ.out.trans HGL.out) 1 (by decide)
      have e2 := own_at hO4 j (HJ.out.trans HGL.out) 2 (by decide)
      have e3 := own_at hO4 j (HJ.out.trans HGL.out) 3 (by decide)
      have e4 := own_at hO4 j (HJ.out.trans HGL.out) 4 (by decide)
      have e5 := own_at hO4 j (HJ.out.trans HGL.out) 5 (by decide)
      have e6 := own_at hO4 j (HJ.out.trans HGL.out) 6 (by decide)
      have e7 := own_at hO4 j (HJ.out.trans HGL.out) 7 (by decide)
      have f1 : w4.cell? ⟨g, j * 8 + 1, none⟩ = some (.int .i64 kk) := e1
      have f2 : w4.cell? ⟨g, j * 8 + 1 + 1, none⟩ = some (.int .i64 tt) := e2
      have f3 : w4.cell? ⟨g, j * 8 + 1 + 2, none⟩ = some (.int .i64 xx) := e3
      have f4 : w4.cell? ⟨g, j * 8 + 1 + 3, none⟩ = some (.int .i64 ll) := e4
      have f5 : w4.cell? ⟨g, j * 8 + 1 + 4, none⟩ = some (.slice Ar rs.length cr) := e5
      have f6 : w4.cell? ⟨g, j * 8 + 1 + 5, none⟩ = some (.slice Aw ws.length cw) := e6
      have f7 : w4.cell? ⟨g, j * 8 + 1 + 6, none⟩ = some (.bool yy) := e7
      have ff := own_free hO4
      have hgw4 : g < w4.heap.size := Nat.lt_of_lt_of_le hgw hb4.size
      have HP := Lib.hid (own_part hO4 (enCs ⟨⟨tm, kk, tt, xx, ll, yy, rs, ws⟩, B1, b1, B2, b2, wr.heap.size, m, w4.heap.size⟩) 1 [.int .i64 kk, .int .i64 tt, .int .i64 xx, .int .i64 ll, .slice B1 nr b1, .slice B2 nw b2, .bool yy] (by simp) (fun q hq => by
        have h8 : q = 0 ∨ q = 1 ∨ q = 2 ∨ q = 3 ∨ q = 4 ∨ q = 5 ∨ q = 6 ∨ q = 7 := by omega
        rcases h8 with rfl | rfl | rfl | rfl | rfl | rfl | rfl | rfl <;> simp [enCs, HVR.out, HVW.out]) (j * 8 + 1) (by rw [← HGL.out, ← HJ.out]))
      have HKP := Lib.hid (fun lo2 hi2 (h : s1 ≤ lo2) => keep_putN (w := w4) (lo := lo2) (hi := hi2) (g := g) (.inl (Nat.lt_of_lt_of_le hG.out.2 h)) (j * 8 + 1) [.int .i64 kk, .int .i64 tt, .int .i64 xx, .int .i64 ll, .slice B1 nr b1, .slice B2 nw b2, .bool yy])
      have HPZ := Lib.hid (putN_size w4 g (j * 8 + 1) [.int .i64 kk, .int .i64 tt, .int .i64 xx, .int .i64 ll, .slice B1 nr b1, .slice B2 nw b2, .bool yy])
      have hEO : EnO w4 ⟨⟨tm, kk, tt, xx, ll, yy, rs, ws⟩, B1, b1, B2, b2, wr.heap.size, m, w4.heap.size⟩ := ⟨hm1, hm2, hoS, hoW⟩
      have HNV := Lib.hid ((HV.out.since hb4).snoc ⟨⟨tm, kk, tt, xx, ll, yy, rs, ws⟩, B1, b1, B2, b2, wr.heap.size, m, w4.heap.size⟩ hEO (Nat.le_refl _) (Nat.le_refl _) hzr (fun p hp => by injection hp with hp; subst hp; exact hG.out.2))
      have HB4 := Lib.hid (HB.out.trans (hb4.mono HB.out.size))
      have hz4 : s1 ≤ w4.heap.size := Nat.le_trans hzr hb4.size
      clear hO4 e1 e2 e3 e4 e5 e6 e7 hoS hoW hm1 hm2 hb4 hEO d1 d2 d3 d4 d5 d6 d7
      go_wp2
      go_roundw
      case rel =>
        refine ⟨ds ++ [⟨⟨tm, kk, tt, xx, ll, yy, rs, ws⟩, Ar, cr, Aw, cw, elo, em, ehi⟩], t, gs ++ [⟨⟨tm, kk, tt, xx, ll, yy, rs, ws⟩, B1, b1, B2, b2, wr.heap.size, m, w4.heap.size⟩], ?_, ?_, ?_, ?_, ?_, ?_, ?_⟩
        · show _ = _; rw [HS.out]; simp
        · show _ = _; rw [List.map_append, List.map_append, HG.out]; rfl
        · rw [List.length_append, ← HJ.out]; go_num
        · show Own _ _ _ _ _ _ _ _
          have h7 := HP.out
          rw [List.map_append, List.append_assoc]
          exact h7
        · have h7 := HNV.out.keep (HKP.out s1 w4.heap.size (Nat.le_refl _))
          exact h7.wider (Nat.le_refl _) (Nat.le_of_eq HPZ.out.symm)
        · exact below_putN HB4.out hG.out.1 (j * 8 + 1) [.int .i64 kk, .int .i64 tt, .int .i64 xx, .int .i64 ll, .slice B1 nr b1, .slice B2 nw b2, .bool yy]
        · have := HPZ.out
          exact Nat.le_trans hz4 (Nat.le_of_eq this.symm)
      case measure => simp [intOf]; omega
    | nil =>
      have hjn : j = n := by simpa using hlen
      subst hjn
      have HR := Lib.hid (show CopyLPost es j w (.returned (.slice A1 j c1)) wr from ⟨A1, c1, gs, rfl, by rw [HG.out, HS.out, List.append_nil], ⟨by have h7 := HO.out.wider (Nat.le_refl _) hzr; rw [List.map_nil, List.append_nil] at h7; exact h7, HV.out.wider hz1 (Nat.le_refl _)⟩, HB.out⟩)
      clear hj
      go_wp2
      go_ret
      exact HR.out

/-- An element appended to a row of the call's own. -/
theorem kd_app {α : Type} {K : Kd α} {W w' : World} {lo m k c : Nat} {A : Option Addr} {gs : List α} {v' : Value} {x : α} (hgs : OwnK K W lo m A c gs) (hm : m ≤ W.heap.size) (hlo : lo ≤ m) (hx : K.ow W x) (hx1 : m ≤ K.lo x) (hx2 : K.hi x ≤ W.heap.size) (hk : gs.length = k) (hsz : 0 < K.sz)
    (hown : w'.ownsRow lo K.t K.sz v' (k + 1) ((gs.map K.cs).flatten ++ K.cs x)) (hgr : W.grownBy w' (Value.slice A k c).ownBlock) (hat : v'.ownBlock = (Value.slice A k c).ownBlock ∨ v'.ownBlock = some W.heap.size) : ∃ A' c', v' = .slice A' (k + 1) c' ∧ OwnK K w' lo w'.heap.size A' c' (gs ++ [x]) := by
  have e : (gs.map K.cs).flatten ++ K.cs x = ((gs ++ [x]).map K.cs).flatten := by simp
  rw [e] at hown
  obtain ⟨A', c', hv, hl, ho⟩ := Own.ofRow hown (cs_len K _) hsz (hi := w'.heap.size) (fun k hk => (hown.lt k hk).2)
  rw [List.length_map, List.length_append, hk] at hv
  have hp : ∀ p, A' = some p → (∃ q, A = some q ∧ q.block = p.block) ∨ p.block = W.heap.size := fun p hp => by
    subst hp
    subst hv
    rcases hat with h | h
    · cases A with
      | none => simp [Value.ownBlock] at h
      | some q => exact .inl ⟨q, rfl, by simpa [Value.ownBlock] using h.symm⟩
    · exact .inr (by simpa [Value.ownBlock] using h)
  have hA : ∀ q, A = some q → lo ≤ q.block ∧ q.block < m := fun q hq => by have := Own.block hgs.1 q hq; exact ⟨this.1, this.2.1⟩
  have hkeep : ∀ y, (∀ q, A = some q → q.block < K.lo y ∨ K.hi y ≤ q.block) → Keep (K.lo y) (K.hi y) W w' := fun y hy b h1 h2 h3 => hgr.block b h3 (fun e => by
    cases A with
    | none => simp [Value.ownBlock] at e
    | some q =>
      simp [Value.ownBlock] at e
      have := hy q rfl
      omega)
  have hle := K.ow_le hx
  refine ⟨A', c', hv, ho, fun y hy => ?_, List.pairwise_append.2 ⟨hgs.2.2, List.pairwise_singleton _ _, fun a ha b hb => ?_⟩⟩
  · rcases List.mem_append.1 hy with hy | hy
    · obtain ⟨h1, h2, h3, h4⟩ := hgs.2.1 y hy
      refine ⟨K.ow_keep h1 (hkeep y h4), h2, Nat.le_trans h3 (Nat.le_trans hm hgr.size), fun p hpp => ?_⟩
      rcases hp p hpp with ⟨q, hq, hqp⟩ | hq
      · rw [← hqp]; exact h4 q hq
      · exact .inr (by omega)
    · rw [List.mem_singleton.1 hy]
      refine ⟨K.ow_keep hx (hkeep x fun q hq => .inl (by have := hA q hq; omega)), by omega, Nat.le_trans hx2 hgr.size, fun p hpp => ?_⟩
      rcases hp p hpp with ⟨q, hq, hqp⟩ | hq
      · exact .inl (by have := hA q hq; omega)
      · exact .inr (by omega)
  · rw [List.mem_singleton.1 hb]
    exact .inl (by have := (hgs.2.1 a ha).2.2.1; omega)
/-- What lies before the call stands. -/
theorem kd_below {α : Type} {K : Kd α} {w W w' : World} {lo m k c : Nat} {A : Option Addr} {gs : List α} (hgs : OwnK K W lo m A c gs) (hb : Below lo w W) (hlo : lo ≤ w.heap.size) (hgr : W.grownBy w' (Value.slice A k c).ownBlock) : Below lo w w' :=
  hb.grown hgr (by have := hb.size; omega) (fun b hbk => by
    cases A with
    | none => simp [Value.ownBlock] at hbk
    | some q => simp [Value.ownBlock] at hbk; have := (Own.block hgs.1 q rfl).1; omega)
/-- A list appended to a new empty row. -/
theorem app_empty {W w1 : World} {t : TypeId} {sz n : Nat} {L : List (List Value)} {v1 : Value} (hown1 : w1.ownsRow W.heap.size t sz v1 (0 + n) ([] ++ L.flatten)) (hgr1 : (W.alloc (.cells #[] t)).grownBy w1 (Value.slice (some ⟨W.heap.size, 0, none⟩) 0 0).ownBlock) (hL : ∀ x ∈ L, x.length = sz) (hsz : 0 < sz) (hn : L.length = n) : ∃ A1 c1, v1 = .slice A1 n c1 ∧ Own w1 W.heap.size w1.heap.size t sz A1 c1 L ∧ Below W.heap.size W w1 := by
  obtain ⟨A1, c1, hv, _, ho⟩ := Own.ofRow (w := w1) (lo := W.heap.size) (t := t) (sz := sz) (n := n) (v := v1) (L := L) (hi := w1.heap.size) (by simpa using hown1) hL hsz (fun k hk => (hown1.lt k hk).2)
  rw [hn] at hv
  exact ⟨A1, c1, hv, ho, (below1 W (.cells #[] t)).grown hgr1 (by simp) (fun k hk => by simp [Value.ownBlock] at hk; omega)⟩
theorem ownK_empty {α : Type} (K : Kd α) (w : World) : OwnK K (w.alloc (.cells #[] K.t)) w.heap.size (w.alloc (.cells #[] K.t)).heap.size (some ⟨w.heap.size, 0, none⟩) 0 [] :=
  ⟨.inr ⟨w.heap.size, #[], rfl, Nat.le_refl _, by simp, heap_alloc_new _ _, by simp, by unfold maxLen; omega, by simp, fun j hj => by simp at hj⟩, Nst.nil⟩

def SpecLPost (es : List EH) (n : Nat) (w : World) (e : Ending) (w' : World) : Prop :=
  ∃ A1 c1 gs, e = .returned (.slice A1 n c1) ∧ gs.map EH.d = es.map EH.d ∧ OwnK KE w' w.heap.size w'.heap.size A1 c1 gs ∧ Below w.heap.size w w'
set_option maxRecDepth 100000 in
set_option maxHeartbeats 8000000 in
theorem l9OwnLog_any (A : Option Addr) (n c : Nat) (es : List EH) (B : Nat) (w : World) (hn : es.length = n) (h : RowsB KE w B A es) (hB : B ≤ w.heap.size) (hm : LgSmall (es.map EH.d)) :
    Calls Try.prog 60 #[.slice A n c] w (SpecLPost es n w) := by
  obtain ⟨iS, hiS, hzS0, hzS1, hzS2⟩ := info_parts infoStr
  obtain ⟨iW, hiW, hzW0, hzW1, hzW2⟩ := info_parts infoWrite
  obtain ⟨iE, hiE, hzE0, hzE1, hzE2⟩ := info_parts infoEnt
  obtain ⟨hl, hms⟩ := hm
  have hnl : n ≤ 1048576 := by simp at hl; omega
  have HN := Lib.hid hn
  have HM := Lib.hid (fun e (he : e ∈ es) => hms e.d (List.mem_map_of_mem he))
  have HR := Lib.hid h
  have HE0 := Lib.hid (ownK_empty KE w)
  have HB0 := Lib.hid (below1 w (.cells #[] 35))
  clear hn h hl hms
  go_enter Try.func60, Try.ntmps60
  go_wp2
  go_loopw [3, 4] (fun v j wr => ∃ (ds rt gs : List EH) (A1 : Option Addr) (k c1 : Nat), Hid (es = ds ++ rt) ∧ Hid (gs.map EH.d = ds.map EH.d) ∧ Hid (ds.length = k) ∧ j = .int .i64 k ∧ v = .slice A1 k c1 ∧ Hid (OwnK KE wr w.heap.size wr.heap.size A1 c1 gs) ∧ Hid (Below w.heap.size w wr)) (fun _ j _ => n - (intOf j).toNat)
  case atStart => exact ⟨[], es, [], some ⟨w.heap.size, 0, none⟩, 0, 0, rfl, rfl, rfl, rfl, rfl, HE0, HB0⟩
  case round =>
    clear HE0 HB0
    obtain ⟨ds, rt, gs, A1, k, c1, HS, HG, HK, rfl, rfl, HO, HB⟩ := hrel
    have hlen : k + rt.length = n := by rw [← HN.out, HS.out, List.length_append, HK.out]
    have HGL := Lib.hid (show gs.length = k by rw [← HK.out, dats_len HG.out])
    cases rt with
    | cons x t =>
      have hmx := HM.out x (by rw [HS.out]; simp)
      obtain ⟨b, off, rfl, hbB, hc⟩ := en_get HR.out (by rw [HN.out]; simp at hlen; omega)
      obtain ⟨hc0, hc1, hc2, hc3, hc4, hc5, hc6, hc7⟩ := hc k (by rw [HN.out]; simp at hlen; omega)
      have hrx := HR.out.2 x (by rw [HS.out]; simp)
      have ex : es[k]'(by rw [HN.out]; simp at hlen; omega) = x := by
        have e1 : es[k]'(by rw [HN.out]; simp at hlen; omega) = (ds ++ x :: t)[k]'(by simp; have := HK.out; omega) := by simp only [HS.out]
        rw [e1, List.getElem_append_right (by rw [HK.out]; exact Nat.le_refl _)]
        simp [HK.out]
      rw [ex] at hc0 hc1 hc2 hc3 hc4 hc5 hc6 hc7
      have hb := HB.out
      have p0 := (hb.cell (p := ⟨b, off + k * 8, none⟩) (Nat.lt_of_lt_of_le hbB hB)).trans hc0
      have p1 := (hb.cell (p := ⟨b, off + k * 8 + 1, none⟩) (Nat.lt_of_lt_of_le hbB hB)).trans hc1
      have p2 := (hb.cell (p := ⟨b, off + k * 8 + 2, none⟩) (Nat.lt_of_lt_of_le hbB hB)).trans hc2
      have p3 := (hb.cell (p := ⟨b, off + k * 8 + 3, none⟩) (Nat.lt_of_lt_of_le hbB hB)).trans hc3
      have p4 := (hb.cell (p := ⟨b, off + k * 8 + 4, none⟩) (Nat.lt_of_lt_of_le hbB hB)).trans hc4
      have p5 := (hb.cell (p := ⟨b, off + k * 8 + 5, none⟩) (Nat.lt_of_lt_of_le hbB hB)).trans hc5
      have p6 := (hb.cell (p := ⟨b, off + k * 8 + 6, none⟩) (Nat.lt_of_lt_of_le hbB hB)).trans hc6
      have p7 := (hb.cell (p := ⟨b, off + k * 8 + 7, none⟩) (Nat.lt_of_lt_of_le hbB hB)).trans hc7
      have hBr := Nat.le_trans hB hb.size
      obtain ⟨⟨tm, kk, tt, xx, ll, yy, rs, ws⟩, Ar, cr, Aw, cw, elo, em, ehi⟩ := x
      simp only at p0 p1 p2 p3 p4 p5 p6 p7 hrx hmx
      have hlt : k < n := by simp at hlen; omega
      obtain ⟨nr, hvnr⟩ : ∃ nr, nr = rs.length := ⟨_, rfl⟩
      obtain ⟨nw, hvnw⟩ : ∃ nw, nw = ws.length := ⟨_, rfl⟩
      rw [← hvnr] at p5
      rw [← hvnw] at p6
      have hnr : nr ≤ 1048576 := by rw [hvnr]; exact hmx.1.1
      have hnw : nw ≤ 1048576 := by rw [hvnw]; exact hmx.2.1
      have HRS := Lib.hid (show StrsB wr B Ar rs from hrx.1.below (hb.mono hB))
      have HWS := Lib.hid (show WritesB wr B Aw ws from hrx.2.below (hb.mono hB))
      have HVR := Lib.hid hvnr
      have HVW := Lib.hid hvnw
      have hj0 : (0 : Int) ≤ (k : Int) := by omega
      have hj1 : (k : Int) < (n : Int) := by omega
      have hbw : b < wr.heap.size := Nat.lt_of_lt_of_le hbB hBr
      clear hc hc0 hc1 hc2 hc3 hc4 hc5 hc6 hc7 hrx hmx ex hvnr hvnw hb
      go_upto_region 6 with fail
      -- the variable's block
      have hbx := below1 wr (.cells #[.int .i64 tm, .int .i64 kk, .int .i64 tt, .int .i64 xx, .int .i64 ll, .slice Ar nr cr, .slice Aw nw cw, .bool yy] 35)
      have hkx := heap_alloc_new wr (.cells #[.int .i64 tm, .int .i64 kk, .int .i64 tt, .int .i64 xx, .int .i64 ll, .slice Ar nr cr, .slice Aw nw cw, .bool yy] 35)
      obtain ⟨V, hV⟩ : ∃ V, V = wr.alloc (.cells #[.int .i64 tm, .int .i64 kk, .int .i64 tt, .int .i64 xx, .int .i64 ll, .slice Ar nr cr, .slice Aw nw cw, .bool yy] 35) := ⟨_, rfl⟩
      rw [← hV] at hbx hkx ⊢
      have HVs := Lib.hid (show V.heap.size = wr.heap.size + 1 by rw [hV]; simp)
      clear hV p0 p1 p2 p3 p4 p5 p6 p7
      have HKX := Lib.hid hkx
      have HBX := Lib.hid hbx
      have HSRC := Lib.hid (strs_src (n := nr) ((HRS.out.below (hbx.mono hBr)).below ((below1 V (.cells #[] 9)).mono (Nat.le_trans hBr hbx.size))) HVR.out.symm)
      have HSL := Lib.hid (show ((rs.map strCs).flatten).length = nr * 1 by rw [flat_len (strCs_len _), List.length_map, HVR.out])
      have HOE := Lib.hid (own_empty V V.heap.size 9 1 (Nat.le_refl _))
      have x5 := cell_blk (i := 5) hkx rfl
      have fx := free_blk hkx
      have hlV : wr.heap.size < V.heap.size := lt_blk hkx
      clear hbx hkx
      go_upto_region 7 with (at_builtin; refine wpList_app rfl (.tmp 17) (.tmp 20) 22 rfl V.heap.size 9 iS _ 1 16 Try.underlying22 hiS hzS0 hzS1 hzS2 rfl (by decide) (.slice (some ⟨V.heap.size, 0, none⟩) 0 0) 0 [] rfl HOE.out Ar nr cr ((rs.map strCs).flatten) rfl HSL.out HSRC.out (strCs_one rs) (by unfold maxLen; omega) (by omega) (by simp) ?_; intro v1 w1 hown1 hgr1 _; obtain ⟨B1, b1, rfl, ho1, hb1⟩ := app_empty hown1 hgr1 (strCs_len _) (by decide) (by rw [List.length_map]; exact HVR.out.symm); have hk1 := (hb1.block wr.heap.size hlV).trans HKX.out; have x5 := cell_blk (i := 5) hk1 rfl; have fx := free_blk hk1; have hl1 := lt_blk hk1; have HK1 := Lib.hid hk1; have HB1 := Lib.hid hb1; have HO1 := Lib.hid ho1; clear hown1 hgr1 ho1 hb1 hk1)
      have kx2 := set_blk HK1.out (i := 5) (.slice B1 nr b1)
      have hb2 : Below wr.heap.size wr (w1.setCell ⟨wr.heap.size, 5, none⟩ (.slice B1 nr b1)) := (HBX.out.trans (HB1.out.mono HBX.out.size)).setCell (p := ⟨wr.heap.size, 5, none⟩) (Nat.le_refl _) _
      have hoS : OwnS (w1.setCell ⟨wr.heap.size, 5, none⟩ (.slice B1 nr b1)) V.heap.size w1.heap.size B1 b1 rs := Own.keep HO1.out (keep_set (p := ⟨wr.heap.size, 5, none⟩) (.inl hlV) _)
      obtain ⟨V2, hV2⟩ : ∃ V2, V2 = w1.setCell ⟨wr.heap.size, 5, none⟩ (.slice B1 nr b1) := ⟨_, rfl⟩
      rw [← hV2] at kx2 hb2 hoS ⊢
      have HV2s := Lib.hid (show V2.heap.size = w1.heap.size by rw [hV2]; simp [World.setCell])
      clear hV2 x5 fx hl1
      have HKX2 := Lib.hid kx2
      have HBX2 := Lib.hid hb2
      have HOS := Lib.hid hoS
      have HSRC2 := Lib.hid (wrs_src (n := nw) ((HWS.out.below (hb2.mono hBr)).below ((below1 V2 (.cells #[] 121)).mono (Nat.le_trans hBr hb2.size))) HVW.out.symm)
      have HSL2 := Lib.hid (show ((ws.map wrCs).flatten).length = nw * 3 by rw [flat_len (wrCs_len _), List.length_map, HVW.out])
      have HOE2 := Lib.hid (own_empty V2 V2.heap.size 121 3 (Nat.le_refl _))
      have x6 := cell_blk (i := 6) kx2 rfl
      have fx := free_blk kx2
      have hlV2 : wr.heap.size < V2.heap.size := lt_blk kx2
      clear hb2 kx2 hoS
      go_upto_region 8 with (at_builtin; refine wpList_app rfl (.tmp 24) (.tmp 27) 31 rfl V2.heap.size 121 iW _ 3 40 Try.underlying31 hiW hzW0 hzW1 hzW2 rfl (by decide) (.slice (some ⟨V2.heap.size, 0, none⟩) 0 0) 0 [] rfl HOE2.out Aw nw cw ((ws.map wrCs).flatten) rfl HSL2.out HSRC2.out (wrCs_one2 ws) (by unfold maxLen; omega) (by omega) (by simp) ?_; intro v2 w2 hown2 hgr2 _; obtain ⟨B2, b2, rfl, ho2, hb2⟩ := app_empty hown2 hgr2 (wrCs_len _) (by decide) (by rw [List.length_map]; exact HVW.out.symm); have hk2 := (hb2.block wr.heap.size hlV2).trans HKX2.out; have x6 := cell_blk (i := 6) hk2 rfl; have fx := free_blk hk2; have hl2 := lt_blk hk2; have HK2 := Lib.hid hk2; have HB2 := Lib.hid hb2; have HO2 := Lib.hid ho2; clear hown2 hgr2 ho2 hb2 hk2)
      have kx3 := set_blk HK2.out (i := 6) (.slice B2 nw b2)
      have hb3 : Below wr.heap.size wr (w2.setCell ⟨wr.heap.size, 6, none⟩ (.slice B2 nw b2)) := (HBX2.out.trans (HB2.out.mono HBX2.out.size)).setCell (p := ⟨wr.heap.size, 6, none⟩) (Nat.le_refl _) _
      have hoW : OwnW (w2.setCell ⟨wr.heap.size, 6, none⟩ (.slice B2 nw b2)) V2.heap.size w2.heap.size B2 b2 ws := Own.keep HO2.out (keep_set (p := ⟨wr.heap.size, 6, none⟩) (.inl hlV2) _)
      have hoS : OwnS (w2.setCell ⟨wr.heap.size, 6, none⟩ (.slice B2 nw b2)) V.heap.size w1.heap.size B1 b1 rs := Own.keep (Own.keep HOS.out (keep_since HB2.out)) (keep_set (p := ⟨wr.heap.size, 6, none⟩) (.inl hlV) _)
      obtain ⟨V3, hV3⟩ : ∃ V3, V3 = w2.setCell ⟨wr.heap.size, 6, none⟩ (.slice B2 nw b2) := ⟨_, rfl⟩
      rw [← hV3] at kx3 hb3 hoS hoW ⊢
      have HV3s := Lib.hid (show V3.heap.size = w2.heap.size by rw [hV3]; simp [World.setCell])
      have hsz := HV2s.out
      have hz12 := HB1.out.size
      have hz22 := HB2.out.size
      rw [hsz] at hoW
      have hXO : EnO V3 ⟨⟨tm, kk, tt, xx, ll, yy, rs, ws⟩, B1, b1, B2, b2, V.heap.size, w1.heap.size, w2.heap.size⟩ := ⟨hz12, by rw [← hsz]; exact hz22, hoS, hoW⟩
      have ern := HVR.out
      have ewn := HVW.out
      subst ern ewn
      have hO3 := HO.out.since hb3
      have hbr := below1 V3 (.cells #[.int .i64 tm, .int .i64 kk, .int .i64 tt, .int .i64 xx, .int .i64 ll, .slice B1 rs.length b1, .slice B2 ws.length b2, .bool yy] 35)
      have hOw := hO3.since hbr
      have hXw := KE.ow_keep hXO (keep_since hbr)
      have HLW := Lib.hid (show wr.heap.size ≤ V.heap.size ∧ w2.heap.size ≤ (V3.alloc (.cells #[.int .i64 tm, .int .i64 kk, .int .i64 tt, .int .i64 xx, .int .i64 ll, .slice B1 rs.length b1, .slice B2 ws.length b2, .bool yy] 35)).heap.size ∧ wr.heap.size ≤ (V3.alloc (.cells #[.int .i64 tm, .int .i64 kk, .int .i64 tt, .int .i64 xx, .int .i64 ll, .slice B1 rs.length b1, .slice B2 ws.length b2, .bool yy] 35)).heap.size from ⟨Nat.le_of_lt hlV, by rw [← HV3s.out]; simp, Nat.le_trans hb3.size hbr.size⟩)
      have HROW := Lib.hid (show (V3.alloc (.cells #[.int .i64 tm, .int .i64 kk, .int .i64 tt, .int .i64 xx, .int .i64 ll, .slice B1 rs.length b1, .slice B2 ws.length b2, .bool yy] 35)).ownsRow w.heap.size 35 8 (.slice A1 k c1) k ((gs.map enCs).flatten) from by
        have h7 := Own.toRow hOw.1 (cs_len KE gs) (by decide)
        rw [List.length_map, HGL.out] at h7
        exact h7)
      have HBW := Lib.hid (HB.out.trans ((hb3.trans (hbr.mono hb3.size)).mono HB.out.size))
      have HNEW := Lib.hid (heap_alloc_new V3 (.cells #[.int .i64 tm, .int .i64 kk, .int .i64 tt, .int .i64 xx, .int .i64 ll, .slice B1 rs.length b1, .slice B2 ws.length b2, .bool yy] 35))
      have HXW := Lib.hid hXw
      have HOW := Lib.hid hOw
      have HWZ := Lib.hid (show w.heap.size ≤ wr.heap.size from HB.out.size)
      have x0 := cell_blk (i := 0) kx3 rfl
      have x1 := cell_blk (i := 1) kx3 rfl
      have x2 := cell_blk (i := 2) kx3 rfl
      have x3 := cell_blk (i := 3) kx3 rfl
      have x4 := cell_blk (i := 4) kx3 rfl
      have x5 := cell_blk (i := 5) kx3 rfl
      have x6' := cell_blk (i := 6) kx3 rfl
      have x7 := cell_blk (i := 7) kx3 rfl
      clear hV3 x6 fx hl2 hoS hoW hsz hz12 hz22 hXO hO3 hbr hOw hXw kx3
      go_wp2_with (at_builtin; refine wpList_app rfl (.tmp 31) (.tmp 33) 89 rfl w.heap.size 35 iE _ 8 96 Try.underlying89 hiE hzE0 hzE1 hzE2 rfl (by decide) (.slice A1 k c1) k ((gs.map enCs).flatten) rfl HROW.out (some ⟨V3.heap.size, 0, none⟩) 1 1 (enCs ⟨⟨tm, kk, tt, xx, ll, yy, rs, ws⟩, B1, b1, B2, b2, V.heap.size, w1.heap.size, w2.heap.size⟩) rfl rfl (fun _ => ⟨_, rfl, World.news_of_block (cs := #[.int .i64 tm, .int .i64 kk, .int .i64 tt, .int .i64 xx, .int .i64 ll, .slice B1 rs.length b1, .slice B2 ws.length b2, .bool yy]) (t := 35) (fr := (0, 0)) HNEW.out⟩) (by simp [enCs, Value.oneCell']) (by unfold maxLen; omega) (by omega) (Nat.le_trans HWZ.out HLW.out.2.2) ?_; intro v4 w4 hown4 hgr4 hat4; obtain ⟨A4, c4, rfl, ho4⟩ := kd_app (K := KE) (x := ⟨⟨tm, kk, tt, xx, ll, yy, rs, ws⟩, B1, b1, B2, b2, V.heap.size, w1.heap.size, w2.heap.size⟩) HOW.out HLW.out.2.2 HWZ.out HXW.out HLW.out.1 HLW.out.2.1 HGL.out (by decide) hown4 hgr4 hat4; have HB4 := Lib.hid (kd_below (K := KE) HOW.out HBW.out (Nat.le_refl _) hgr4); have HO4 := Lib.hid ho4; clear hown4 hgr4 hat4 ho4 x0 x1 x2 x3 x4 x5 x6' x7)
      go_roundw
      case rel =>
        refine ⟨ds ++ [⟨⟨tm, kk, tt, xx, ll, yy, rs, ws⟩, Ar, cr, Aw, cw, elo, em, ehi⟩], t, gs ++ [⟨⟨tm, kk, tt, xx, ll, yy, rs, ws⟩, B1, b1, B2, b2, V.heap.size, w1.heap.size, w2.heap.size⟩], A4, k + 1, c4, ?_, ?_, ?_, by go_num, rfl, HO4, HB4⟩
        · show _ = _; rw [HS.out]; simp
        · show _ = _; rw [List.map_append, List.map_append, HG.out]; rfl
        · show _ = _; rw [List.length_append, HK.out]; rfl
      case measure => simp [intOf]; omega
    | nil =>
      have hjn : k = n := by simpa using hlen
      subst hjn
      have HX := Lib.hid (show SpecLPost es k w (.returned (.slice A1 k c1)) wr from ⟨A1, c1, gs, rfl, by rw [HG.out, HS.out, List.append_nil], HO.out, HB.out⟩)
      go_wp2
      go_ret
      exact HX.out

theorem bel_d0 {w w1 : World} (h : Below w.drew.heap.size w.drew w1) : Below w.heap.size w w1 := ⟨h.1, h.2, h.3, h.4, fun k hk => h.5 k hk⟩
/-- A group copied into memory of its own. -/
def CopyGPost (hs : List RH) (n : Nat) (tm ld : Int) (w : World) (e : Ending) (w' : World) : Prop :=
  ∃ A1 c1 gs, e = .returned (.agg #[.slice A1 n c1, .int .i64 tm, .int .i64 ld]) ∧ gs.map rdat = hs.map rdat ∧ OwnK KR w' w.heap.size w'.heap.size A1 c1 gs ∧ Below w.heap.size w w'
set_option maxRecDepth 100000 in
set_option maxHeartbeats 4000000 in
theorem copyGroup_any (A : Option Addr) (n c : Nat) (tm ld : Int) (hs : List RH) (B : Nat) (w : World) (hn : hs.length = n) (h : RowsB KR w B A hs) (hB : B ≤ w.heap.size) (hm : RpSmall (hs.map rdat)) :
    Calls Try.prog 115 #[.agg #[.slice A n c, .int .i64 tm, .int .i64 ld]] w (CopyGPost hs n tm ld w) := by
  obtain ⟨hl, hms⟩ := hm
  have hnl : n ≤ 1048576 := by simp at hl; omega
  have HN := Lib.hid hn
  have HM := Lib.hid (fun r (he : r ∈ hs) => hms (rdat r) (List.mem_map_of_mem he))
  have HRD := Lib.hid (fun r (he : r ∈ hs) => h.2 r he)
  have hb0 := below2 w (.cells #[.slice A n c, .int .i64 tm, .int .i64 ld] 45) (.cells #[.slice none 0 0, .int .i64 0, .int .i64 0] 45)
  have ka := alloc2_a w (.cells #[.slice A n c, .int .i64 tm, .int .i64 ld] 45) (.cells #[.slice none 0 0, .int .i64 0, .int .i64 0] 45)
  have kb := alloc2_b w (.cells #[.slice A n c, .int .i64 tm, .int .i64 ld] 45) (.cells #[.slice none 0 0, .int .i64 0, .int .i64 0] 45)
  have HC := Lib.hid (cloneR_any A n c hs B _ hn (h.below (hb0.mono hB)) (Nat.le_trans hB hb0.size) (by omega))
  have HKA := Lib.hid ka
  have HKB := Lib.hid kb
  have HB0 := Lib.hid hb0
  clear hn h hl hms hb0 ka kb
  go_enter Try.func115, Try.ntmps115
  go_wp2_with fail
  (with_reducible refine HC.out.mono ?_)
  rintro e w1 ⟨A1, c1, rfl, ho1, hb1⟩
  have ka := (hb1.block w.heap.size (by simp; omega)).trans HKA.out
  have kb := (hb1.block (w.heap.size + 1) (by simp)).trans HKB.out
  have a0 := cell_blk (i := 0) ka rfl
  have fa := free_all ka
  have hla := lt_blk ka
  have hz1 := hb1.size
  simp only [World.size_alloc] at hz1 ho1
  have ka1 := set_blk ka (i := 0) (.slice A1 n c1)
  have kb1 := (Below.heap_setCell (w := w1) ⟨w.heap.size, 0, none⟩ (.slice A1 n c1) (w.heap.size + 1) (by simp)).trans kb
  have hb2 : Below w.heap.size w (w1.setCell ⟨w.heap.size, 0, none⟩ (.slice A1 n c1)) := (HB0.out.trans (hb1.mono HB0.out.size)).setCell (p := ⟨w.heap.size, 0, none⟩) (Nat.le_refl _) _
  have ho2 : Own (w1.setCell ⟨w.heap.size, 0, none⟩ (.slice A1 n c1)) (w.heap.size + 1 + 1) w1.heap.size 91 3 A1 c1 (hs.map rpCs) := Own.keep ho1 (keep_set (p := ⟨w.heap.size, 0, none⟩) (.inl (show w.heap.size < w.heap.size + 1 + 1 by omega)) _)
  clear ho1 hb1 ka kb HKA HKB HB0 HC
  go_upto_region 2 with fail
  obtain ⟨V, hV⟩ : ∃ V, V = w1.setCell ⟨w.heap.size, 0, none⟩ (.slice A1 n c1) := ⟨_, rfl⟩
  rw [← hV] at ka1 kb1 hb2 ho2 ⊢
  have hVs : w1.heap.size = V.heap.size := by rw [hV]; simp [World.setCell]
  rw [hVs] at ho2 hz1
  obtain ⟨s1, hs1⟩ : ∃ s, s = V.heap.size := ⟨_, rfl⟩
  rw [← hs1] at ho2 hz1
  have hs1' : s1 ≤ V.heap.size := by omega
  have HKA := Lib.hid ka1
  have HKB := Lib.hid kb1
  have HB1 := Lib.hid hb2
  have HO1 := Lib.hid ho2
  have v0 := cell_blk (i := 0) ka1 rfl
  have vl := lt_blk ka1
  clear hV hVs hs1 ka1 kb1 hb2 ho2 a0 fa hla
  go_wp2_with fail
  go_loopw [11] (fun j wr => ∃ (ds rt gs : List RH), Hid (hs = ds ++ rt) ∧ Hid (gs.map rdat = ds.map rdat) ∧ j = .int .i64 ds.length ∧ Hid (Own wr (w.heap.size + 1 + 1) s1 91 3 A1 c1 (gs.map rpCs ++ rt.map rpCs)) ∧ Hid (Nst KR wr s1 wr.heap.size A1 gs) ∧ Hid (Below w.heap.size w wr) ∧ s1 ≤ wr.heap.size ∧ Hid (wr.heap[w.heap.size]? = some (.cells #[.slice A1 n c1, .int .i64 tm, .int .i64 ld] 45 (0, 0))) ∧ Hid (wr.heap[w.heap.size + 1]? = some (.cells #[.slice none 0 0, .int .i64 0, .int .i64 0] 45 (0, 0)))) (fun j _ => n - (intOf j).toNat)
  case atStart => exact ⟨[], hs, [], rfl, rfl, rfl, HO1, Nst.nil, HB1, hs1', HKA, HKB⟩
  case round =>
    clear HO1 HB1 hs1' HKA HKB v0 vl
    obtain ⟨ds, rt, gs, HS, HG, rfl, HO, HV, HB, hzr, HKA, HKB⟩ := hrel
    have hlen : ds.length + rt.length = n := by rw [← HN.out, HS.out, List.length_append]
    have HGL := Lib.hid (show ds.length = (gs.map rpCs).length by rw [List.length_map, dats_len HG.out])
    obtain ⟨j, hj⟩ : ∃ j, j = ds.length := ⟨_, rfl⟩
    have HJ := Lib.hid hj
    rw [← hj] at hlen ⊢
    have a0 := cell_blk (i := 0) HKA.out rfl
    have hla := lt_blk HKA.out
    cases rt with
    | cons x t =>
      have hmx := HM.out x (by rw [HS.out]; simp)
      have hrx := HRD.out x (by rw [HS.out]; simp)
      obtain ⟨up, su, Al, cl, es, rlo, rhi⟩ := x
      simp only [List.map_cons] at HO
      have hlt : j < n := by simp at hlen; omega
      obtain ⟨g, cur, rfl, hg1, hg2, _⟩ := HO.out.form (by simp; omega)
      have c1' := own_at HO.out j (hj.trans HGL.out) 1 (by decide)
      have d1 : wr.cell? ⟨g, j * 3 + 1, none⟩ = some (.slice Al es.length cl) := c1'
      have hgw : g < wr.heap.size := Nat.lt_of_lt_of_le hg2 hzr
      have HR := Lib.hid (fun W (hW : Below wr.heap.size wr W) => copyLog_any Al es.length cl es B W rfl (RowsB.below (K := KE) hrx ((HB.out.mono hB).trans (hW.mono (Nat.le_trans hB HB.out.size)))) (Nat.le_trans hB (Nat.le_trans HB.out.size hW.size)) hmx)
      have hG := Lib.hid (show w.heap.size + 1 + 1 ≤ g ∧ g < s1 from ⟨hg1, hg2⟩)
      have hj0 : (0 : Int) ≤ (j : Int) := by omega
      have hj1 : (j : Int) < (n : Int) := by omega
      obtain ⟨nl, hvnl⟩ : ∃ nl, nl = es.length := ⟨_, rfl⟩
      rw [← hvnl] at HR d1
      have HVL := Lib.hid hvnl
      have hbel := (Below.refl wr.heap.size wr).drew
      clear hj hg1 hg2 hmx hrx c1' hvnl
      go_upto_region 5 with fail
      go_region_law ((go_simp; go_at_call 123; (with_reducible refine (HR.out _ hbel).mono ?_); rintro e w4 ⟨B1, b1, ls, rfl, hd4, ho4, hb4'⟩; have hb4 := bel_d0 hb4'; clear hb4'; have hO4 := HO.out.below (w' := w4) (hb4.mono hzr); have f1 : w4.cell? ⟨g, j * 3 + 1, none⟩ = some (.slice Al es.length cl) := own_at hO4 j (HJ.out.trans HGL.out) 1 (by decide); have ff := own_free hO4; have hka4 := (hb4.block w.heap.size hla).trans HKA.out; have x0 := cell_blk (i := 0) hka4 rfl; have hgw4 : g < w4.heap.size := Nat.lt_of_lt_of_le hgw hb4.size))
      all_goals (
        have hlsl : ls.length = nl := by rw [dats_len hd4]; exact HVL.out.symm
        have hls := HVL.out
        have HP := Lib.hid (own_part hO4 (rpCs ⟨up, su, B1, b1, ls, wr.heap.size, w4.heap.size⟩) 1 [.slice B1 nl b1] (by simp) (fun q hq => by
          have h8 : q = 0 ∨ q = 1 ∨ q = 2 := by omega
          rcases h8 with rfl | rfl | rfl <;> simp [rpCs, hlsl]) (j * 3 + 1) (by rw [← HGL.out, ← HJ.out]))
        have HKP := Lib.hid (fun lo2 hi2 (h : s1 ≤ lo2) => keep_putN (w := w4) (lo := lo2) (hi := hi2) (g := g) (.inl (Nat.lt_of_lt_of_le hG.out.2 h)) (j * 3 + 1) [.slice B1 nl b1])
        have HPZ := Lib.hid (putN_size w4 g (j * 3 + 1) [.slice B1 nl b1])
        have hEO : KR.ow w4 ⟨up, su, B1, b1, ls, wr.heap.size, w4.heap.size⟩ := ⟨hb4.size, ho4⟩
        have HNV := Lib.hid ((HV.out.since hb4).snoc ⟨up, su, B1, b1, ls, wr.heap.size, w4.heap.size⟩ hEO (Nat.le_refl _) (Nat.le_refl _) hzr (fun p hp => by injection hp with hp; subst hp; exact hG.out.2))
        have HB4 := Lib.hid (HB.out.trans (hb4.mono HB.out.size))
        have hz4 : s1 ≤ w4.heap.size := Nat.le_trans hzr hb4.size
        have HKA4 := Lib.hid ((putN_other w4 g (j * 3 + 1) [.slice B1 nl b1] w.heap.size (by have := hG.out; omega)).trans hka4)
        have HKB4 := Lib.hid ((putN_other w4 g (j * 3 + 1) [.slice B1 nl b1] (w.heap.size + 1) (by have := hG.out; omega)).trans ((hb4.block (w.heap.size + 1) (lt_blk HKB.out)).trans HKB.out))
        have HD4 := Lib.hid hd4
        clear hO4 f1 ff hka4 x0 ho4 hb4 hEO d1 hlsl hls hd4 a0
        go_wp2
        go_roundw
        case rel =>
          refine ⟨ds ++ [⟨up, su, Al, cl, es, rlo, rhi⟩], t, gs ++ [⟨up, su, B1, b1, ls, wr.heap.size, w4.heap.size⟩], ?_, ?_, ?_, ?_, ?_, ?_, ?_, HKA4, HKB4⟩
          · show _ = _; rw [HS.out]; simp
          · show _ = _; rw [List.map_append, List.map_append, HG.out]; simp only [List.map_cons, List.map_nil, rdat, HD4.out]
          · rw [List.length_append, ← HJ.out]; go_num
          · show Own _ _ _ _ _ _ _ _
            have h7 := HP.out
            rw [List.map_append, List.append_assoc]
            exact h7
          · have h7 := HNV.out.keep (HKP.out s1 w4.heap.size (Nat.le_refl _))
            exact h7.wider (Nat.le_refl _) (Nat.le_of_eq HPZ.out.symm)
          · exact below_putN HB4.out (by have := hG.out.1; omega) (j * 3 + 1) [.slice B1 nl b1]
          · have := HPZ.out
            exact Nat.le_trans hz4 (Nat.le_of_eq this.symm)
        case measure => simp [intOf]; omega)
    | nil =>
      have hjn : j = n := by simpa using hlen
      subst hjn
      have a1 := cell_blk (i := 1) HKA.out rfl
      have a2 := cell_blk (i := 2) HKA.out rfl
      have b0 := cell_blk (i := 0) HKB.out rfl
      have b1 := cell_blk (i := 1) HKB.out rfl
      have b2 := cell_blk (i := 2) HKB.out rfl
      have fb := free_all HKB.out
      have hlb := lt_blk HKB.out
      have hown : OwnK KR wr (w.heap.size + 1 + 1) wr.heap.size A1 c1 gs := ⟨by have h7 := HO.out.wider (Nat.le_refl _) hzr; rw [List.map_nil, List.append_nil] at h7; exact h7, HV.out.wider hz1 (Nat.le_refl _)⟩
      have HOW := Lib.hid hown
      have HDD := Lib.hid (show gs.map rdat = hs.map rdat by rw [HG.out, HS.out, List.append_nil])
      clear hj hown
      go_wp2
      exact bodyPost_ret (v := .agg #[.slice A1 j c1, .int .i64 tm, .int .i64 ld]) (by simp [results, Try.results115, go_sem, *]) rfl ⟨A1, c1, gs, rfl, HDD.out,
        (HOW.out.keep (keep_putN (g := w.heap.size + 1) (.inl (Nat.lt_succ_self _)) 0 [.slice A1 j c1, .int .i64 tm, .int .i64 ld])).wider (by omega) (by simp [World.setCell]),
        below_putN HB.out (show w.heap.size ≤ w.heap.size + 1 by omega) 0 [.slice A1 j c1, .int .i64 tm, .int .i64 ld]⟩

theorem bel_d1 {w w1 : World} (h : Below w.drew.heap.size w.drew w1) : Below w.heap.size w w1 := ⟨h.1, h.2, h.3, h.4, fun k hk => h.5 k hk⟩
/-- A store into a block of another type, below the elements' own memory. -/
theorem OwnK.storeT {α : Type} {K : Kd α} {w : World} {lo hi cap : Nat} {A : Option Addr} {xs : List α} (h : OwnK K w lo hi A cap xs) {p : Addr} {t' : TypeId} {cur' : Array Value} {fz : Nat × Nat} (hp : w.heap[p.block]? = some (.cells cur' t' fz)) (hne : K.t ≠ t') (hx : ∀ x ∈ xs, p.block < K.lo x) (u : Value) : OwnK K (w.setCell p u) lo hi A cap xs :=
  ⟨Own.otherT h.1 hp hne u, fun x hxx => ⟨K.ow_keep (h.2.1 x hxx).1 (keep_set (.inl (hx x hxx)) u), (h.2.1 x hxx).2⟩, h.2.2⟩
theorem kd_ne {α : Type} {K : Kd α} {W : World} {lo m k c g : Nat} {A : Option Addr} {gs : List α} {cur : Array Value} {t : TypeId} {fz : Nat × Nat} (hgs : OwnK K W lo m A c gs) (hg : W.heap[g]? = some (Obj.cells cur t fz)) (ht : K.t ≠ t) : some g ≠ (Value.slice A k c).ownBlock := fun e => by
  cases A with
  | none => simp [Value.ownBlock] at e
  | some a =>
    obtain ⟨_, _, cur', hc⟩ := Own.block hgs.1 a rfl
    simp [Value.ownBlock] at e
    subst e
    rw [hg] at hc
    simp only [Option.some.injEq, Obj.cells.injEq] at hc
    exact ht hc.2.1.symm
theorem kd_below2 {α : Type} {K : Kd α} {w W w' : World} {B lo m k c : Nat} {A : Option Addr} {gs : List α} (hgs : OwnK K W lo m A c gs) (hb : Below B w W) (hB : B ≤ lo) (hW : B ≤ W.heap.size) (hgr : W.grownBy w' (Value.slice A k c).ownBlock) : Below B w w' :=
  hb.grown hgr hW (fun b hbk => by
    cases A with
    | none => simp [Value.ownBlock] at hbk
    | some q => simp [Value.ownBlock] at hbk; have := (Own.block hgs.1 q rfl).1; omega)
def SpecGPost (hs : List RH) (n : Nat) (tm ld : Int) (w : World) (e : Ending) (w' : World) : Prop :=
  ∃ A1 c1 gs, e = .returned (.agg #[.slice A1 n c1, .int .i64 tm, .int .i64 ld]) ∧ gs.map rdat = hs.map rdat ∧ OwnK KR w' w.heap.size w'.heap.size A1 c1 gs ∧ Below w.heap.size w w'
theorem own_start (w : World) (a b c : Obj) : OwnK KR ((((w.alloc a).alloc b).alloc (.cells #[] 91)).alloc c) (w.heap.size + 1 + 1) ((((w.alloc a).alloc b).alloc (.cells #[] 91)).alloc c).heap.size (some ⟨w.heap.size + 1 + 1, 0, none⟩) 0 [] := by
  have h := ownK_empty KR ((w.alloc a).alloc b)
  simp only [World.size_alloc] at h
  have h2 := h.keep (keep_alloc (lo := w.heap.size + 1 + 1) (hi := w.heap.size + 1 + 1 + 1) c)
  exact h2.wider (Nat.le_refl _) (by simp)
/-- The four cells that a round reads. -/
def Four (w : World) (W : World) (b off n c k nl cl : Nat) (up : Bool) (su : Int) (Al : Option Addr) : Prop := W.cell? ⟨w.heap.size, 0, none⟩ = some (.slice (some ⟨b, off, none⟩) n c) ∧ W.cell? ⟨b, off + k * 3, none⟩ = some (.bool up) ∧ W.cell? ⟨b, off + k * 3 + 1, none⟩ = some (.slice Al nl cl) ∧ W.cell? ⟨b, off + k * 3 + 2, none⟩ = some (.int .i64 su)
theorem own9_call {w wr w4 : World} {b off n c k nl cl c1 b1 : Nat} {up : Bool} {su : Int} {Al A1 B1 : Option Addr} {gs : List RH} {ls : List EH} (hb4 : Below wr.heap.size wr w4)
    (h : Four w wr b off n c k nl cl up su Al) (hlw : w.heap.size + 1 + 1 + 1 < wr.heap.size) (hbw : b < wr.heap.size) (z0 : wr.cell? ⟨w.heap.size + 1 + 1 + 1, 0, none⟩ = some (.slice A1 k c1))
    (HO : OwnK KR wr (w.heap.size + 1 + 1) wr.heap.size A1 c1 gs) (hk : gs.length = k) (ho4 : OwnK KE w4 wr.heap.size w4.heap.size B1 b1 ls) :
    ((w4.cell? ⟨w.heap.size, 0, none⟩ = some (.slice (some ⟨b, off, none⟩) n c) ∧ w4.cell? ⟨b, off + k * 3, none⟩ = some (.bool up) ∧ w4.cell? ⟨b, off + k * 3 + 1, none⟩ = some (.slice Al nl cl) ∧ w4.cell? ⟨b, off + k * 3 + 2, none⟩ = some (.int .i64 su)) ∧ (∀ o, (w4.alloc o).cell? ⟨w.heap.size, 0, none⟩ = some (.slice (some ⟨b, off, none⟩) n c) ∧ (w4.alloc o).cell? ⟨b, off + k * 3, none⟩ = some (.bool up) ∧ (w4.alloc o).cell? ⟨b, off + k * 3 + 1, none⟩ = some (.slice Al nl cl) ∧ (w4.alloc o).cell? ⟨b, off + k * 3 + 2, none⟩ = some (.int .i64 su))) ∧ w4.cell? ⟨w.heap.size + 1 + 1 + 1, 0, none⟩ = some (.slice A1 k c1) ∧ (∀ o, (w4.alloc o).cell? ⟨w.heap.size + 1 + 1 + 1, 0, none⟩ = some (.slice A1 k c1)) ∧
    KR.ow w4 ⟨up, su, B1, b1, ls, wr.heap.size, w4.heap.size⟩ ∧ OwnK KR (w4.alloc (.cells #[.bool up, .slice B1 nl b1, .int .i64 su] 91)) (w.heap.size + 1 + 1) wr.heap.size A1 c1 gs ∧ (w4.alloc (.cells #[.bool up, .slice B1 nl b1, .int .i64 su] 91)).ownsRow (w.heap.size + 1 + 1) 91 3 (.slice A1 k c1) k ((gs.map rpCs).flatten) ∧ (w4.alloc (.cells #[.bool up, .slice B1 nl b1, .int .i64 su] 91)).heap[w4.heap.size]? = some (.cells #[.bool up, .slice B1 nl b1, .int .i64 su] 91) ∧ w.heap.size + 1 + 1 ≤ (w4.alloc (.cells #[.bool up, .slice B1 nl b1, .int .i64 su] 91)).heap.size := by
  obtain ⟨h0, h1, h2, h3⟩ := h
  have hw : w.heap.size < wr.heap.size := by omega
  have hs4 := hb4.size
  have q0 := (hb4.cell (p := ⟨w.heap.size, 0, none⟩) hw).trans h0
  have q1 := (hb4.cell (p := ⟨b, off + k * 3, none⟩) hbw).trans h1
  have q2 := (hb4.cell (p := ⟨b, off + k * 3 + 1, none⟩) hbw).trans h2
  have q3 := (hb4.cell (p := ⟨b, off + k * 3 + 2, none⟩) hbw).trans h3
  have y0 := (hb4.cell (p := ⟨w.heap.size + 1 + 1 + 1, 0, none⟩) hlw).trans z0
  have ha : ∀ o, Below w4.heap.size w4 (w4.alloc o) := fun o => below1 w4 o
  have hOw := (HO.since hb4).since (ha (.cells #[.bool up, .slice B1 nl b1, .int .i64 su] 91))
  refine ⟨⟨⟨q0, q1, q2, q3⟩, fun o => ⟨?_, ?_, ?_, ?_⟩⟩, y0, fun o => ?_, ⟨hs4, ho4⟩, hOw, ?_, heap_alloc_new _ _, by simp; omega⟩
  · exact ((ha o).cell (p := ⟨w.heap.size, 0, none⟩) (Nat.lt_of_lt_of_le hw hs4)).trans q0
  · exact ((ha o).cell (p := ⟨b, off + k * 3, none⟩) (Nat.lt_of_lt_of_le hbw hs4)).trans q1
  · exact ((ha o).cell (p := ⟨b, off + k * 3 + 1, none⟩) (Nat.lt_of_lt_of_le hbw hs4)).trans q2
  · exact ((ha o).cell (p := ⟨b, off + k * 3 + 2, none⟩) (Nat.lt_of_lt_of_le hbw hs4)).trans q3
  · exact ((ha o).cell (p := ⟨w.heap.size + 1 + 1 + 1, 0, none⟩) (Nat.lt_of_lt_of_le hlw hs4)).trans y0
  · have h7 := Own.toRow hOw.1 (cs_len KR gs) (by decide)
    rw [List.length_map, hk] at h7
    exact h7
theorem own9_app {w wr w4 w5 : World} {b off n c k nl cl c1 b1 : Nat} {up : Bool} {tm ld su : Int} {Al A A1 B1 : Option Addr} {gs : List RH} {ls : List EH} {v5 : Value} (hb4 : Below wr.heap.size wr w4) (hbB : b < w.heap.size) (hlw : w.heap.size + 1 + 1 + 1 < wr.heap.size)
    (h4 : ∀ o, Four w (w4.alloc o) b off n c k nl cl up su Al) (HB : Below w.heap.size w wr)
    (HKA : wr.heap[w.heap.size]? = some (.cells #[.slice A n c, .int .i64 tm, .int .i64 ld] 45 (0, 0))) (HKB : wr.heap[w.heap.size + 1]? = some (.cells #[.slice none 0 0, .int .i64 0, .int .i64 0] 45 (0, 0))) (HKC : wr.heap[w.heap.size + 1 + 1 + 1]? = some (.cells #[.slice A1 k c1, .int .i64 tm, .int .i64 ld] 45 (0, 0)))
    (HOW : OwnK KR (w4.alloc (.cells #[.bool up, .slice B1 nl b1, .int .i64 su] 91)) (w.heap.size + 1 + 1) wr.heap.size A1 c1 gs) (hx : KR.ow w4 ⟨up, su, B1, b1, ls, wr.heap.size, w4.heap.size⟩) (hls : ls.length = nl) (hk : gs.length = k) (hlo : ∀ x ∈ gs, w.heap.size + 1 + 1 + 1 < x.lo)
    (hown5 : w5.ownsRow (w.heap.size + 1 + 1) 91 3 v5 (k + 1) ((gs.map rpCs).flatten ++ [.bool up, .slice B1 nl b1, .int .i64 su])) (hgr5 : (w4.alloc (.cells #[.bool up, .slice B1 nl b1, .int .i64 su] 91)).grownBy w5 (Value.slice A1 k c1).ownBlock) (hat5 : v5.ownBlock = (Value.slice A1 k c1).ownBlock ∨ v5.ownBlock = some (w4.alloc (.cells #[.bool up, .slice B1 nl b1, .int .i64 su] 91)).heap.size) :
    ∃ A5 c5, v5 = .slice A5 (k + 1) c5 ∧ (w5.cell? ⟨w.heap.size, 0, none⟩ = some (.slice (some ⟨b, off, none⟩) n c) ∧ w5.cell? ⟨b, off + k * 3, none⟩ = some (.bool up) ∧ w5.cell? ⟨b, off + k * 3 + 1, none⟩ = some (.slice Al nl cl) ∧ w5.cell? ⟨b, off + k * 3 + 2, none⟩ = some (.int .i64 su)) ∧ (∀ u, (w5.setCell ⟨w.heap.size + 1 + 1 + 1, 0, none⟩ u).cell? ⟨w.heap.size, 0, none⟩ = some (.slice (some ⟨b, off, none⟩) n c) ∧ (w5.setCell ⟨w.heap.size + 1 + 1 + 1, 0, none⟩ u).cell? ⟨b, off + k * 3, none⟩ = some (.bool up) ∧ (w5.setCell ⟨w.heap.size + 1 + 1 + 1, 0, none⟩ u).cell? ⟨b, off + k * 3 + 1, none⟩ = some (.slice Al nl cl) ∧ (w5.setCell ⟨w.heap.size + 1 + 1 + 1, 0, none⟩ u).cell? ⟨b, off + k * 3 + 2, none⟩ = some (.int .i64 su)) ∧ w5.cell? ⟨w.heap.size + 1 + 1 + 1, 0, none⟩ = some (.slice A1 k c1) ∧ (∀ i, w5.frozen? ⟨w.heap.size + 1 + 1 + 1, i, none⟩ = false) ∧
      (OwnK KR (w5.setCell ⟨w.heap.size + 1 + 1 + 1, 0, none⟩ (.slice A5 (k + 1) c5)) (w.heap.size + 1 + 1) (w5.setCell ⟨w.heap.size + 1 + 1 + 1, 0, none⟩ (.slice A5 (k + 1) c5)).heap.size A5 c5 (gs ++ [⟨up, su, B1, b1, ls, wr.heap.size, w4.heap.size⟩]) ∧ (∀ x ∈ gs ++ [(⟨up, su, B1, b1, ls, wr.heap.size, w4.heap.size⟩ : RH)], w.heap.size + 1 + 1 + 1 < x.lo) ∧ Below w.heap.size w (w5.setCell ⟨w.heap.size + 1 + 1 + 1, 0, none⟩ (.slice A5 (k + 1) c5)) ∧
      (w5.setCell ⟨w.heap.size + 1 + 1 + 1, 0, none⟩ (.slice A5 (k + 1) c5)).heap[w.heap.size]? = some (.cells #[.slice A n c, .int .i64 tm, .int .i64 ld] 45 (0, 0)) ∧ (w5.setCell ⟨w.heap.size + 1 + 1 + 1, 0, none⟩ (.slice A5 (k + 1) c5)).heap[w.heap.size + 1]? = some (.cells #[.slice none 0 0, .int .i64 0, .int .i64 0] 45 (0, 0)) ∧ (w5.setCell ⟨w.heap.size + 1 + 1 + 1, 0, none⟩ (.slice A5 (k + 1) c5)).heap[w.heap.size + 1 + 1 + 1]? = some (.cells #[.slice A5 (k + 1) c5, .int .i64 tm, .int .i64 ld] 45 (0, 0))) := by
  have hs4 := hb4.size
  have ha := below1 w4 (.cells #[.bool up, .slice B1 nl b1, .int .i64 su] 91)
  have hz : (w4.alloc (.cells #[.bool up, .slice B1 nl b1, .int .i64 su] 91)).heap.size = w4.heap.size + 1 := by simp
  have hka := (ha.block w.heap.size (by omega)).trans ((hb4.block w.heap.size (by omega)).trans HKA)
  have hkb := (ha.block (w.heap.size + 1) (by omega)).trans ((hb4.block (w.heap.size + 1) (by omega)).trans HKB)
  have hkc := (ha.block (w.heap.size + 1 + 1 + 1) (by omega)).trans ((hb4.block (w.heap.size + 1 + 1 + 1) (by omega)).trans HKC)
  have hcs : KR.cs ⟨up, su, B1, b1, ls, wr.heap.size, w4.heap.size⟩ = [.bool up, .slice B1 nl b1, .int .i64 su] := by show rpCs _ = _; simp only [rpCs, hls]
  obtain ⟨A5, c5, rfl, ho5⟩ := kd_app (K := KR) (x := ⟨up, su, B1, b1, ls, wr.heap.size, w4.heap.size⟩) HOW (by omega) (by omega) (KR.ow_keep hx (keep_since ha)) (Nat.le_refl _) (by simp only [KR]; omega) hk (by decide) (by rw [hcs]; exact hown5) hgr5 hat5
  have hka5 := (hgr5.block _ (lt_blk hka) (kd_ne HOW hka (by decide))).trans hka
  have hkb5 := (hgr5.block _ (lt_blk hkb) (kd_ne HOW hkb (by decide))).trans hkb
  have hkc5 := (hgr5.block _ (lt_blk hkc) (kd_ne HOW hkc (by decide))).trans hkc
  have hne : some b ≠ (Value.slice A1 k c1).ownBlock := fun e => by
    cases A1 with
    | none => simp [Value.ownBlock] at e
    | some q => simp [Value.ownBlock] at e; have := (Own.block HOW.1 q rfl).1; omega
  have hbb := hgr5.block b (by omega) hne
  obtain ⟨f0, f1, f2, f3⟩ := h4 (.cells #[.bool up, .slice B1 nl b1, .int .i64 su] 91)
  have hcell : ∀ o, w5.cell? ⟨b, o, none⟩ = (w4.alloc (.cells #[.bool up, .slice B1 nl b1, .int .i64 su] 91)).cell? ⟨b, o, none⟩ := fun o => by simp only [World.cell?, hbb]
  have g0 : w5.cell? ⟨w.heap.size, 0, none⟩ = some (.slice (some ⟨b, off, none⟩) n c) := by
    have e := cell_blk (i := 0) hka5 rfl
    have e2 := cell_blk (i := 0) hka rfl
    rw [e2] at f0
    rw [e]; exact f0
  have g1 := (hcell _).trans f1
  have g2 := (hcell _).trans f2
  have g3 := (hcell _).trans f3
  have hF : ∀ x ∈ gs ++ [(⟨up, su, B1, b1, ls, wr.heap.size, w4.heap.size⟩ : RH)], w.heap.size + 1 + 1 + 1 < x.lo := fun x hx => by
    rcases List.mem_append.1 hx with hx | hx
    · exact hlo x hx
    · rw [List.mem_singleton.1 hx]; exact hlw
  have hset : ∀ u (p : Addr), p.block ≠ w.heap.size + 1 + 1 + 1 → (w5.setCell ⟨w.heap.size + 1 + 1 + 1, 0, none⟩ u).cell? p = w5.cell? p := fun u p hp => World.cell?_setCell_far w5 ⟨w.heap.size + 1 + 1 + 1, 0, none⟩ p u (by simp; omega)
  refine ⟨A5, c5, rfl, ⟨g0, g1, g2, g3⟩, fun u => ⟨(hset u _ (by simp; omega)).trans g0, (hset u _ (by simp; omega)).trans g1, (hset u _ (by simp; omega)).trans g2, (hset u _ (by simp; omega)).trans g3⟩, cell_blk (i := 0) hkc5 rfl, fun i => free_blk hkc5 i,
    (ho5.storeT (p := ⟨w.heap.size + 1 + 1 + 1, 0, none⟩) hkc5 (by decide) hF _).wider (Nat.le_refl _) (by simp [World.setCell]), hF, ?_, ?_, ?_, set_blk hkc5 (i := 0) _⟩
  · exact (kd_below2 HOW ((HB.trans (hb4.mono HB.size)).trans (ha.mono (Nat.le_trans HB.size hs4))) (show w.heap.size ≤ w.heap.size + 1 + 1 by omega) (by omega) hgr5).setCell (p := ⟨w.heap.size + 1 + 1 + 1, 0, none⟩) (show w.heap.size ≤ w.heap.size + 1 + 1 + 1 by omega) _
  · exact (Below.heap_setCell (w := w5) ⟨w.heap.size + 1 + 1 + 1, 0, none⟩ _ w.heap.size (by simp; omega)).trans hka5
  · exact (Below.heap_setCell (w := w5) ⟨w.heap.size + 1 + 1 + 1, 0, none⟩ _ (w.heap.size + 1) (by simp)).trans hkb5
set_option maxRecDepth 100000 in
set_option maxHeartbeats 16000000 in
theorem l9Own_any (A : Option Addr) (n c : Nat) (tm ld : Int) (hs : List RH) (B : Nat) (w : World) (hn : hs.length = n) (h : RowsB KR w B A hs) (hB : B ≤ w.heap.size) (hm : RpSmall (hs.map rdat)) :
    Calls Try.prog 59 #[.agg #[.slice A n c, .int .i64 tm, .int .i64 ld]] w (SpecGPost hs n tm ld w) := by
  obtain ⟨iR, hiR, hzR0, hzR1, hzR2⟩ := info_parts infoRep
  obtain ⟨hl, hms⟩ := hm
  have hnl : n ≤ 1048576 := by simp at hl; omega
  have HN := Lib.hid hn
  have HM := Lib.hid (fun r (he : r ∈ hs) => hms (rdat r) (List.mem_map_of_mem he))
  have HR := Lib.hid h
  have hb0 := below3 w (.cells #[.slice A n c, .int .i64 tm, .int .i64 ld] 45) (.cells #[.slice none 0 0, .int .i64 0, .int .i64 0] 45) (.cells #[] 91)
  have HE0 := Lib.hid (own_start w (.cells #[.slice A n c, .int .i64 tm, .int .i64 ld] 45) (.cells #[.slice none 0 0, .int .i64 0, .int .i64 0] 45) (.cells #[.slice (some ⟨w.heap.size + 1 + 1, 0, none⟩) 0 0, .int .i64 tm, .int .i64 ld] 45))
  have HB0 := Lib.hid (hb0.alloc (by simp; omega) (.cells #[.slice (some ⟨w.heap.size + 1 + 1, 0, none⟩) 0 0, .int .i64 tm, .int .i64 ld] 45))
  have ha := (Below.heap_alloc (((w.alloc (.cells #[.slice A n c, .int .i64 tm, .int .i64 ld] 45)).alloc (.cells #[.slice none 0 0, .int .i64 0, .int .i64 0] 45)).alloc (.cells #[] 91)) (.cells #[.slice (some ⟨w.heap.size + 1 + 1, 0, none⟩) 0 0, .int .i64 tm, .int .i64 ld] 45) w.heap.size (by simp; omega)).trans (alloc3_a w _ _ _)
  have hbk := (Below.heap_alloc (((w.alloc (.cells #[.slice A n c, .int .i64 tm, .int .i64 ld] 45)).alloc (.cells #[.slice none 0 0, .int .i64 0, .int .i64 0] 45)).alloc (.cells #[] 91)) (.cells #[.slice (some ⟨w.heap.size + 1 + 1, 0, none⟩) 0 0, .int .i64 tm, .int .i64 ld] 45) (w.heap.size + 1) (by simp)).trans (alloc3_b w _ _ _)
  have hck := heap_alloc_new (((w.alloc (.cells #[.slice A n c, .int .i64 tm, .int .i64 ld] 45)).alloc (.cells #[.slice none 0 0, .int .i64 0, .int .i64 0] 45)).alloc (.cells #[] 91)) (.cells #[.slice (some ⟨w.heap.size + 1 + 1, 0, none⟩) 0 0, .int .i64 tm, .int .i64 ld] 45)
  simp only [World.size_alloc] at hck
  have HKA := Lib.hid ha
  have HKB := Lib.hid hbk
  have HKC := Lib.hid hck
  clear hn h hl hms hb0 ha hbk hck
  go_enter Try.func59, Try.ntmps59
  go_wp2
  go_loopw [4] (fun j wr => ∃ (ds rt gs : List RH) (A1 : Option Addr) (k c1 : Nat), Hid (hs = ds ++ rt) ∧ Hid (gs.map rdat = ds.map rdat) ∧ Hid (ds.length = k) ∧ j = .int .i64 k ∧ Hid (OwnK KR wr (w.heap.size + 1 + 1) wr.heap.size A1 c1 gs) ∧ Hid (∀ x ∈ gs, w.heap.size + 1 + 1 + 1 < x.lo) ∧ Hid (Below w.heap.size w wr) ∧ Hid (wr.heap[w.heap.size]? = some (.cells #[.slice A n c, .int .i64 tm, .int .i64 ld] 45 (0, 0))) ∧ Hid (wr.heap[w.heap.size + 1]? = some (.cells #[.slice none 0 0, .int .i64 0, .int .i64 0] 45 (0, 0))) ∧ Hid (wr.heap[w.heap.size + 1 + 1 + 1]? = some (.cells #[.slice A1 k c1, .int .i64 tm, .int .i64 ld] 45 (0, 0)))) (fun j _ => n - (intOf j).toNat)
  case atStart => exact ⟨[], hs, [], some ⟨w.heap.size + 1 + 1, 0, none⟩, 0, 0, rfl, rfl, rfl, rfl, HE0, by intro x hx; simp at hx, HB0, HKA, HKB, HKC⟩
  case round =>
    clear HE0 HB0 HKA HKB HKC
    obtain ⟨ds, rt, gs, A1, k, c1, HS, HG, HK, rfl, HO, HLO, HB, HKA, HKB, HKC⟩ := hrel
    have hlen : k + rt.length = n := by rw [← HN.out, HS.out, List.length_append, HK.out]
    have HGL := Lib.hid (show gs.length = k by rw [← HK.out, dats_len HG.out])
    have a0 := cell_blk (i := 0) HKA.out rfl
    have z0 := cell_blk (i := 0) HKC.out rfl
    have hla := lt_blk HKA.out
    have hlb := lt_blk HKB.out
    have hlc := lt_blk HKC.out
    cases rt with
    | cons x t =>
      have hmx := HM.out x (by rw [HS.out]; simp)
      have hrx := HR.out.2 x (by rw [HS.out]; simp)
      obtain ⟨b, off, rfl, hbB, hc⟩ := rp_get HR.out (by rw [HN.out]; simp at hlen; omega)
      obtain ⟨hc0, hc1, hc2⟩ := hc k (by rw [HN.out]; simp at hlen; omega)
      have ex : hs[k]'(by rw [HN.out]; simp at hlen; omega) = x := by
        have e1 : hs[k]'(by rw [HN.out]; simp at hlen; omega) = (ds ++ x :: t)[k]'(by simp; have := HK.out; omega) := by simp only [HS.out]
        rw [e1, List.getElem_append_right (by rw [HK.out]; exact Nat.le_refl _)]
        simp [HK.out]
      rw [ex] at hc0 hc1 hc2
      have hb := HB.out
      have p0 := (hb.cell (p := ⟨b, off + k * 3, none⟩) (Nat.lt_of_lt_of_le hbB hB)).trans hc0
      have p1 := (hb.cell (p := ⟨b, off + k * 3 + 1, none⟩) (Nat.lt_of_lt_of_le hbB hB)).trans hc1
      have p2 := (hb.cell (p := ⟨b, off + k * 3 + 2, none⟩) (Nat.lt_of_lt_of_le hbB hB)).trans hc2
      have hBr := Nat.le_trans hB hb.size
      obtain ⟨up, su, Al, cl, es, rlo, rhi⟩ := x
      simp only at p0 p1 p2
      have hlt : k < n := by simp at hlen; omega
      have HL := Lib.hid (fun W (hW : Below wr.heap.size wr W) => l9OwnLog_any Al es.length cl es B W rfl (RowsB.below (K := KE) hrx ((hb.mono hB).trans (hW.mono hBr))) (Nat.le_trans hBr hW.size) hmx)
      obtain ⟨nl, hvnl⟩ : ∃ nl, nl = es.length := ⟨_, rfl⟩
      rw [← hvnl] at p1 HL
      have HVL := Lib.hid hvnl
      have hj0 : (0 : Int) ≤ (k : Int) := by omega
      have hj1 : (k : Int) < (n : Int) := by omega
      have hbw : b < wr.heap.size := Nat.lt_of_lt_of_le hbB hBr
      have hbel := (Below.refl wr.heap.size wr).drew
      have HWZ := Lib.hid (show w.heap.size + 1 + 1 ≤ wr.heap.size by omega)
      clear hc hc0 hc1 hc2 hrx hmx ex hvnl hb
      go_upto_region 5 with fail
      have HFOUR := Lib.hid (show Four w wr b off n c k nl cl up su Al from ⟨a0, p0, p1, p2⟩)
      have HS0 : wr.drew.cell? ⟨w.heap.size, 0, none⟩ = some (.slice (some ⟨b, off, none⟩) n c) ∧ wr.drew.cell? ⟨b, off + k * 3, none⟩ = some (.bool up) ∧ wr.drew.cell? ⟨b, off + k * 3 + 1, none⟩ = some (.slice Al nl cl) ∧ wr.drew.cell? ⟨b, off + k * 3 + 2, none⟩ = some (.int .i64 su) := ⟨a0, p0, p1, p2⟩
      have HZ0 := Lib.hid z0
      have HBB := Lib.hid (show b < w.heap.size from Nat.lt_of_lt_of_le hbB hB)
      clear a0 p0 p1 p2
      refine wp_region_held_drew (S := (fun w' => w'.cell? ⟨w.heap.size, 0, none⟩ = some (.slice (some ⟨b, off, none⟩) n c) ∧ w'.cell? ⟨b, off + k * 3, none⟩ = some (.bool up) ∧ w'.cell? ⟨b, off + k * 3 + 1, none⟩ = some (.slice Al nl cl) ∧ w'.cell? ⟨b, off + k * 3 + 2, none⟩ = some (.int .i64 su))) (by kernel_rfl) HS0 (fun hHeld => ?_)
      refine wpAnyH_take (i := 0) (oi := _) (v := ?_) rfl (by kernel_rfl) (by kernel_rfl) (by kernel_rfl) (fun _ _ _ h => h) (Or.inl ⟨by rfl, ?_⟩) (by assumption) ?_
      rotate_left
      · intro W hSw
        (try dsimp only at hSw)
        go_simp
        (try with_reducible rfl)
      (try simp only [Act.put, List.setIfInBounds_toArray, List.set_cons_zero, List.set_cons_succ])
      refine wpAnyH_take (i := 2) (oi := _) (v := ?_) rfl (by kernel_rfl) (by kernel_rfl) (by kernel_rfl) (fun _ _ _ h => h) (Or.inl ⟨by rfl, ?_⟩) (by assumption) ?_
      rotate_left
      · intro W hSw
        (try dsimp only at hSw)
        go_simp
        (try with_reducible rfl)
      (try simp only [Act.put, List.setIfInBounds_toArray, List.set_cons_zero, List.set_cons_succ])
      refine wpAnyH_take (i := 3) (oi := _) (v := ?_) rfl (by kernel_rfl) (by kernel_rfl) (by kernel_rfl) (fun _ _ _ h => h) (Or.inl ⟨by rfl, ?_⟩) (by assumption) ?_
      rotate_left
      · intro W hSw
        (try dsimp only at hSw)
        go_simp
        (try with_reducible rfl)
      (try simp only [Act.put, List.setIfInBounds_toArray, List.set_cons_zero, List.set_cons_succ])
      refine wpAnyH_take (i := 4) (oi := _) (v := ?_) rfl (by kernel_rfl) (by kernel_rfl) (by kernel_rfl) (fun _ _ _ h => h) (Or.inl ⟨by rfl, ?_⟩) (by assumption) ?_
      rotate_left
      · intro W hSw
        (try dsimp only at hSw)
        go_simp
        (try with_reducible rfl)
      (try simp only [Act.put, List.setIfInBounds_toArray, List.set_cons_zero, List.set_cons_succ])
      refine wpAnyH_take (i := 5) (oi := _) (v := ?_) rfl (by kernel_rfl) (by kernel_rfl) (by kernel_rfl) (fun _ _ _ h => h) (Or.inl ⟨by rfl, ?_⟩) (by assumption) ?_
      rotate_left
      · intro W hSw
        (try dsimp only at hSw)
        go_simp
        (try with_reducible rfl)
      (try simp only [Act.put, List.setIfInBounds_toArray, List.set_cons_zero, List.set_cons_succ])
      refine wpAnyH_take (i := 6) (oi := _) (v := ?_) rfl (by kernel_rfl) (by kernel_rfl) (by kernel_rfl) (fun _ _ _ h => h) (Or.inl ⟨by rfl, ?_⟩) (by assumption) ?_
      rotate_left
      · intro W hSw
        (try dsimp only at hSw)
        go_simp
        (try with_reducible rfl)
      (try simp only [Act.put, List.setIfInBounds_toArray, List.set_cons_zero, List.set_cons_succ])
      refine wpAnyH_take (i := 7) (oi := _) (v := ?_) rfl (by kernel_rfl) (by kernel_rfl) (by kernel_rfl) (fun _ _ _ h => h) (Or.inl ⟨by rfl, ?_⟩) (by assumption) ?_
      rotate_left
      · intro W hSw
        (try dsimp only at hSw)
        go_simp
        (try with_reducible rfl)
      (try simp only [Act.put, List.setIfInBounds_toArray, List.set_cons_zero, List.set_cons_succ])
      refine wpAnyH_take (i := 8) (oi := _) (v := ?_) rfl (by kernel_rfl) (by kernel_rfl) (by kernel_rfl) (fun _ _ _ h => h) (Or.inl ⟨by rfl, ?_⟩) (by assumption) ?_
      rotate_left
      · intro W hSw
        (try dsimp only at hSw)
        go_simp
        (try with_reducible rfl)
      (try simp only [Act.put, List.setIfInBounds_toArray, List.set_cons_zero, List.set_cons_succ])
      refine wpAnyH_take (i := 9) (oi := _) (v := ?_) rfl (by kernel_rfl) (by kernel_rfl) (by kernel_rfl) (fun _ _ _ h => h) (Or.inl ⟨by rfl, ?_⟩) (by assumption) ?_
      rotate_left
      · intro W hSw
        (try dsimp only at hSw)
        go_simp
        (try with_reducible rfl)
      (try simp only [Act.put, List.setIfInBounds_toArray, List.set_cons_zero, List.set_cons_succ])
      refine wpAnyH_take (i := 10) (oi := _) (v := ?_) rfl (by kernel_rfl) (by kernel_rfl) (by kernel_rfl) (fun _ _ _ h => h) (Or.inl ⟨by rfl, ?_⟩) (by assumption) ?_
      rotate_left
      · intro W hSw
        (try dsimp only at hSw)
        go_simp
        (try with_reducible rfl)
      (try simp only [Act.put, List.setIfInBounds_toArray, List.set_cons_zero, List.set_cons_succ])
      refine wpAnyH_take (i := 11) (oi := _) (v := ?_) rfl (by kernel_rfl) (by kernel_rfl) (by kernel_rfl) (fun _ _ _ h => h) (Or.inl ⟨by rfl, ?_⟩) (by assumption) ?_
      rotate_left
      · intro W hSw
        (try dsimp only at hSw)
        go_simp
        (try with_reducible rfl)
      (try simp only [Act.put, List.setIfInBounds_toArray, List.set_cons_zero, List.set_cons_succ])
      refine wpAnyH_take (i := 12) (oi := _) (v := ?_) rfl (by kernel_rfl) (by kernel_rfl) (by kernel_rfl) (fun _ _ _ h => h) (Or.inl ⟨by rfl, ?_⟩) (by assumption) ?_
      rotate_left
      · intro W hSw
        (try dsimp only at hSw)
        go_simp
        (try with_reducible rfl)
      (try simp only [Act.put, List.setIfInBounds_toArray, List.set_cons_zero, List.set_cons_succ])
      refine wpAnyH_take (i := 13) (oi := _) (v := ?_) rfl (by kernel_rfl) (by kernel_rfl) (by kernel_rfl) (fun _ _ _ h => h) (Or.inl ⟨by rfl, ?_⟩) (by assumption) ?_
      rotate_left
      · intro W hSw
        (try dsimp only at hSw)
        go_simp
        (try with_reducible rfl)
      (try simp only [Act.put, List.setIfInBounds_toArray, List.set_cons_zero, List.set_cons_succ])
      refine wpAnyH_take (i := 15) (oi := _) (v := ?_) rfl (by kernel_rfl) (by kernel_rfl) (by kernel_rfl) (fun _ _ _ h => h) (Or.inl ⟨by rfl, ?_⟩) (by assumption) ?_
      rotate_left
      · intro W hSw
        (try dsimp only at hSw)
        go_simp
        (try with_reducible rfl)
      (try simp only [Act.put, List.setIfInBounds_toArray, List.set_cons_zero, List.set_cons_succ])
      refine wpAnyH_take (i := 16) (oi := _) (v := ?_) rfl (by kernel_rfl) (by kernel_rfl) (by kernel_rfl) (fun _ _ _ h => h) (Or.inl ⟨by rfl, ?_⟩) (by assumption) ?_
      rotate_left
      · intro W hSw
        (try dsimp only at hSw)
        go_simp
        (try with_reducible rfl)
      (try simp only [Act.put, List.setIfInBounds_toArray, List.set_cons_zero, List.set_cons_succ])
      refine wpAnyH_take (i := 17) (oi := _) (v := ?_) rfl (by kernel_rfl) (by kernel_rfl) (by kernel_rfl) (fun _ _ _ h => h) (Or.inl ⟨by rfl, ?_⟩) (by assumption) ?_
      rotate_left
      · intro W hSw
        (try dsimp only at hSw)
        go_simp
        (try with_reducible rfl)
      (try simp only [Act.put, List.setIfInBounds_toArray, List.set_cons_zero, List.set_cons_succ])
      refine wpAnyH_take (i := 18) (oi := _) (v := ?_) rfl (by kernel_rfl) (by kernel_rfl) (by kernel_rfl) (fun _ _ _ h => h) (Or.inl ⟨by rfl, ?_⟩) (by assumption) ?_
      rotate_left
      · intro W hSw
        (try dsimp only at hSw)
        go_simp
        (try with_reducible rfl)
      (try simp only [Act.put, List.setIfInBounds_toArray, List.set_cons_zero, List.set_cons_succ])
      refine wpAnyH_take (i := 19) (oi := _) (v := ?_) rfl (by kernel_rfl) (by kernel_rfl) (by kernel_rfl) (fun _ _ _ h => h) (Or.inl ⟨by rfl, ?_⟩) (by assumption) ?_
      rotate_left
      · intro W hSw
        (try dsimp only at hSw)
        go_simp
        (try with_reducible rfl)
      (try simp only [Act.put, List.setIfInBounds_toArray, List.set_cons_zero, List.set_cons_succ])
      refine wpAnyH_take (i := 20) (oi := _) (v := ?_) rfl (by kernel_rfl) (by kernel_rfl) (by kernel_rfl) (fun _ _ _ h => h) (Or.inl ⟨by rfl, ?_⟩) (by assumption) ?_
      rotate_left
      · intro W hSw
        (try dsimp only at hSw)
        go_simp
        (try with_reducible rfl)
      (try simp only [Act.put, List.setIfInBounds_toArray, List.set_cons_zero, List.set_cons_succ])
      refine wpAnyH_ready (rs := [1, 14]) (by kernel_rfl) (by simp) ?_
      refine AllReadyH.cons (o := _) rfl (fun K hK => ?_) ?_
      · go_simp
        refine hK.out _ _ (by (first | with_reducible exact hS6 _ | with_reducible exact hS5 | with_reducible exact hS4a _ | with_reducible exact hS4 | with_reducible exact HS0)) (fun hHeld => ?_)
        clear hK K
        (try simp only [Act.put, List.setIfInBounds_toArray, List.set_cons_zero, List.set_cons_succ])
        refine wpAnyH_ready (rs := [14]) (by kernel_rfl) (by simp) ?_
        refine AllReadyH.cons (o := _) rfl (fun K hK => ?_) ?_
        · go_simp
          go_at_call 60
          (with_reducible refine (HL.out _ hbel).mono ?_)
          rintro e w4 ⟨B1, b1, ls, rfl, hd4, ho4, hb4'⟩
          have hb4 := bel_d1 hb4'
          have hLS : ls.length = nl := (dats_len hd4).trans HVL.out.symm
          obtain ⟨⟨hS4, hS4a⟩, y0, y0a, hX4, hOW, hROW, hNEW, hWS⟩ := own9_call hb4 HFOUR.out hlc hbw HZ0.out HO.out HGL.out ho4
          refine hK.out _ _ (by (first | with_reducible exact hS6 _ | with_reducible exact hS5 | with_reducible exact hS4a _ | with_reducible exact hS4 | with_reducible exact HS0)) (fun hHeld => ?_)
          clear hK K
          (try simp only [Act.put, List.setIfInBounds_toArray, List.set_cons_zero, List.set_cons_succ])
          refine wpAnyH_take (i := 21) (oi := _) (v := ?_) rfl (by kernel_rfl) (by kernel_rfl) (by kernel_rfl) (fun _ _ _ h => h) (Or.inl ⟨by rfl, ?_⟩) (by assumption) ?_
          rotate_left
          · intro W hSw
            (try dsimp only at hSw)
            go_simp
            (try with_reducible rfl)
          (try simp only [Act.put, List.setIfInBounds_toArray, List.set_cons_zero, List.set_cons_succ])
          refine wpAnyH_ready (rs := [22]) (by kernel_rfl) (by simp) ?_
          refine AllReadyH.cons (o := _) rfl (fun K hK => ?_) ?_
          · go_simp
            refine hK.out _ _ (by (first | with_reducible exact hS6 _ | with_reducible exact hS5 | with_reducible exact hS4a _ | with_reducible exact hS4 | with_reducible exact HS0)) (fun hHeld => ?_)
            clear hK K
            (try simp only [Act.put, List.setIfInBounds_toArray, List.set_cons_zero, List.set_cons_succ])
            refine wpAnyH_ready (rs := [23]) (by kernel_rfl) (by simp) ?_
            refine AllReadyH.cons (o := _) rfl (fun K hK => ?_) ?_
            · refine step_app rfl (.tmp 19) (.tmp 40) 43 rfl (w.heap.size + 1 + 1) 91 iR _ 3 40 Try.underlying43 hiR hzR0 hzR1 hzR2 rfl (by decide) (.slice A1 k c1) k ((gs.map rpCs).flatten) (by simp [Act.eval, Act.put]) hROW (some ⟨w4.heap.size, 0, none⟩) 1 1 [.bool up, .slice B1 nl b1, .int .i64 su] (by simp [Act.eval, Act.put]) rfl (fun _ => ⟨_, rfl, World.news_of_block (cs := #[.bool up, .slice B1 nl b1, .int .i64 su]) (t := 91) (fr := (0, 0)) hNEW⟩) (by simp [Value.oneCell']) (by unfold maxLen; omega) (by omega) hWS ?_
              intro v5 w5 hown5 hgr5 hat5
              obtain ⟨A5, c5, rfl, hS5, hS6, t0, ft, HREL⟩ := own9_app hb4 HBB.out hlc hS4a HB.out HKA.out HKB.out HKC.out hOW hX4 hLS HGL.out HLO.out hown5 hgr5 hat5
              refine hK.out _ _ (by (first | with_reducible exact hS6 _ | with_reducible exact hS5 | with_reducible exact hS4a _ | with_reducible exact hS4 | with_reducible exact HS0)) (fun hHeld => ?_)
              clear hK K
              (try simp only [Act.put, List.setIfInBounds_toArray, List.set_cons_zero, List.set_cons_succ])
              refine wpAnyH_take (i := 24) (oi := _) (v := ?_) rfl (by kernel_rfl) (by kernel_rfl) (by kernel_rfl) (fun _ _ _ h => h) (Or.inl ⟨by rfl, ?_⟩) (by assumption) ?_
              rotate_left
              · intro W hSw
                (try dsimp only at hSw)
                go_simp
                (try with_reducible rfl)
              (try simp only [Act.put, List.setIfInBounds_toArray, List.set_cons_zero, List.set_cons_succ])
              refine wpAnyH_ready (rs := [25]) (by kernel_rfl) (by simp) ?_
              refine AllReadyH.cons (o := _) rfl (fun K hK => ?_) ?_
              · go_simp
                refine hK.out _ _ (by (first | with_reducible exact hS6 _ | with_reducible exact hS5 | with_reducible exact hS4a _ | with_reducible exact hS4 | with_reducible exact HS0)) (fun hHeld => ?_)
                clear hK K
                (try simp only [Act.put, List.setIfInBounds_toArray, List.set_cons_zero, List.set_cons_succ])
                refine wpAnyH_done (by kernel_rfl) ?_ _
                obtain ⟨hO6, hF6, hB6, hA6, hBB6, hC6⟩ := HREL
                have HR6 := Lib.hid (And.intro hO6 (And.intro hF6 (And.intro hB6 (And.intro hA6 (And.intro hBB6 hC6)))))
                have HD4 := Lib.hid hd4
                clear hO6 hF6 hB6 hA6 hBB6 hC6 hd4 t0 ft hS5 hS6 hS4 hS4a y0 y0a hX4 hOW hROW hNEW hWS hLS hown5 hgr5 hat5 ho4 hb4 hb4' HS0 z0
                go_wp2
                go_roundw
                case rel =>
                  refine ⟨ds ++ [⟨up, su, Al, cl, es, rlo, rhi⟩], t, gs ++ [(⟨up, su, B1, b1, ls, wr.heap.size, w4.heap.size⟩ : RH)], A5, k + 1, c5, ?_, ?_, ?_, by go_num, Lib.hid HR6.out.1, Lib.hid HR6.out.2.1, Lib.hid HR6.out.2.2.1, Lib.hid HR6.out.2.2.2.1, Lib.hid HR6.out.2.2.2.2.1, Lib.hid HR6.out.2.2.2.2.2⟩
                  · show _ = _; rw [HS.out]; simp
                  · show _ = _; rw [List.map_append, List.map_append, HG.out]; simp only [List.map_cons, List.map_nil, rdat, HD4.out]
                  · show _ = _; rw [List.length_append, HK.out]; rfl
                case measure => simp [intOf]; omega
              exact AllReadyH.nil
            exact AllReadyH.nil
          exact AllReadyH.nil
        exact AllReadyH.nil
      refine AllReadyH.cons (o := _) rfl (fun K hK => ?_) ?_
      · go_simp
        go_at_call 60
        (with_reducible refine (HL.out _ hbel).mono ?_)
        rintro e w4 ⟨B1, b1, ls, rfl, hd4, ho4, hb4'⟩
        have hb4 := bel_d1 hb4'
        have hLS : ls.length = nl := (dats_len hd4).trans HVL.out.symm
        obtain ⟨⟨hS4, hS4a⟩, y0, y0a, hX4, hOW, hROW, hNEW, hWS⟩ := own9_call hb4 HFOUR.out hlc hbw HZ0.out HO.out HGL.out ho4
        refine hK.out _ _ (by (first | with_reducible exact hS6 _ | with_reducible exact hS5 | with_reducible exact hS4a _ | with_reducible exact hS4 | with_reducible exact HS0)) (fun hHeld => ?_)
        clear hK K
        (try simp only [Act.put, List.setIfInBounds_toArray, List.set_cons_zero, List.set_cons_succ])
        refine wpAnyH_take (i := 21) (oi := _) (v := ?_) rfl (by kernel_rfl) (by kernel_rfl) (by kernel_rfl) (fun _ _ _ h => h) (Or.inl ⟨by rfl, ?_⟩) (by assumption) ?_
        rotate_left
        · intro W hSw
          (try dsimp only at hSw)
          go_simp
          (try with_reducible rfl)
        (try simp only [Act.put, List.setIfInBounds_toArray, List.set_cons_zero, List.set_cons_succ])
        refine wpAnyH_ready (rs := [1, 22]) (by kernel_rfl) (by simp) ?_
        refine AllReadyH.cons (o := _) rfl (fun K hK => ?_) ?_
        · go_simp
          refine hK.out _ _ (by (first | with_reducible exact hS6 _ | with_reducible exact hS5 | with_reducible exact hS4a _ | with_reducible exact hS4 | with_reducible exact HS0)) (fun hHeld => ?_)
          clear hK K
          (try simp only [Act.put, List.setIfInBounds_toArray, List.set_cons_zero, List.set_cons_succ])
          refine wpAnyH_ready (rs := [22]) (by kernel_rfl) (by simp) ?_
          refine AllReadyH.cons (o := _) rfl (fun K hK => ?_) ?_
          · go_simp
            refine hK.out _ _ (by (first | with_reducible exact hS6 _ | with_reducible exact hS5 | with_reducible exact hS4a _ | with_reducible exact hS4 | with_reducible exact HS0)) (fun hHeld => ?_)
            clear hK K
            (try simp only [Act.put, List.setIfInBounds_toArray, List.set_cons_zero, List.set_cons_succ])
            refine wpAnyH_ready (rs := [23]) (by kernel_rfl) (by simp) ?_
            refine AllReadyH.cons (o := _) rfl (fun K hK => ?_) ?_
            · refine step_app rfl (.tmp 19) (.tmp 40) 43 rfl (w.heap.size + 1 + 1) 91 iR _ 3 40 Try.underlying43 hiR hzR0 hzR1 hzR2 rfl (by decide) (.slice A1 k c1) k ((gs.map rpCs).flatten) (by simp [Act.eval, Act.put]) hROW (some ⟨w4.heap.size, 0, none⟩) 1 1 [.bool up, .slice B1 nl b1, .int .i64 su] (by simp [Act.eval, Act.put]) rfl (fun _ => ⟨_, rfl, World.news_of_block (cs := #[.bool up, .slice B1 nl b1, .int .i64 su]) (t := 91) (fr := (0, 0)) hNEW⟩) (by simp [Value.oneCell']) (by unfold maxLen; omega) (by omega) hWS ?_
              intro v5 w5 hown5 hgr5 hat5
              obtain ⟨A5, c5, rfl, hS5, hS6, t0, ft, HREL⟩ := own9_app hb4 HBB.out hlc hS4a HB.out HKA.out HKB.out HKC.out hOW hX4 hLS HGL.out HLO.out hown5 hgr5 hat5
              refine hK.out _ _ (by (first | with_reducible exact hS6 _ | with_reducible exact hS5 | with_reducible exact hS4a _ | with_reducible exact hS4 | with_reducible exact HS0)) (fun hHeld => ?_)
              clear hK K
              (try simp only [Act.put, List.setIfInBounds_toArray, List.set_cons_zero, List.set_cons_succ])
              refine wpAnyH_take (i := 24) (oi := _) (v := ?_) rfl (by kernel_rfl) (by kernel_rfl) (by kernel_rfl) (fun _ _ _ h => h) (Or.inl ⟨by rfl, ?_⟩) (by assumption) ?_
              rotate_left
              · intro W hSw
                (try dsimp only at hSw)
                go_simp
                (try with_reducible rfl)
              (try simp only [Act.put, List.setIfInBounds_toArray, List.set_cons_zero, List.set_cons_succ])
              refine wpAnyH_ready (rs := [25]) (by kernel_rfl) (by simp) ?_
              refine AllReadyH.cons (o := _) rfl (fun K hK => ?_) ?_
              · go_simp
                refine hK.out _ _ (by (first | with_reducible exact hS6 _ | with_reducible exact hS5 | with_reducible exact hS4a _ | with_reducible exact hS4 | with_reducible exact HS0)) (fun hHeld => ?_)
                clear hK K
                (try simp only [Act.put, List.setIfInBounds_toArray, List.set_cons_zero, List.set_cons_succ])
                refine wpAnyH_done (by kernel_rfl) ?_ _
                obtain ⟨hO6, hF6, hB6, hA6, hBB6, hC6⟩ := HREL
                have HR6 := Lib.hid (And.intro hO6 (And.intro hF6 (And.intro hB6 (And.intro hA6 (And.intro hBB6 hC6)))))
                have HD4 := Lib.hid hd4
                clear hO6 hF6 hB6 hA6 hBB6 hC6 hd4 t0 ft hS5 hS6 hS4 hS4a y0 y0a hX4 hOW hROW hNEW hWS hLS hown5 hgr5 hat5 ho4 hb4 hb4' HS0 z0
                go_wp2
                go_roundw
                case rel =>
                  refine ⟨ds ++ [⟨up, su, Al, cl, es, rlo, rhi⟩], t, gs ++ [(⟨up, su, B1, b1, ls, wr.heap.size, w4.heap.size⟩ : RH)], A5, k + 1, c5, ?_, ?_, ?_, by go_num, Lib.hid HR6.out.1, Lib.hid HR6.out.2.1, Lib.hid HR6.out.2.2.1, Lib.hid HR6.out.2.2.2.1, Lib.hid HR6.out.2.2.2.2.1, Lib.hid HR6.out.2.2.2.2.2⟩
                  · show _ = _; rw [HS.out]; simp
                  · show _ = _; rw [List.map_append, List.map_append, HG.out]; simp only [List.map_cons, List.map_nil, rdat, HD4.out]
                  · show _ = _; rw [List.length_append, HK.out]; rfl
                case measure => simp [intOf]; omega
              exact AllReadyH.nil
            exact AllReadyH.nil
          exact AllReadyH.nil
        refine AllReadyH.cons (o := _) rfl (fun K hK => ?_) ?_
        · go_simp
          refine hK.out _ _ (by (first | with_reducible exact hS6 _ | with_reducible exact hS5 | with_reducible exact hS4a _ | with_reducible exact hS4 | with_reducible exact HS0)) (fun hHeld => ?_)
          clear hK K
          (try simp only [Act.put, List.setIfInBounds_toArray, List.set_cons_zero, List.set_cons_succ])
          refine wpAnyH_ready (rs := [1]) (by kernel_rfl) (by simp) ?_
          refine AllReadyH.cons (o := _) rfl (fun K hK => ?_) ?_
          · go_simp
            refine hK.out _ _ (by (first | with_reducible exact hS6 _ | with_reducible exact hS5 | with_reducible exact hS4a _ | with_reducible exact hS4 | with_reducible exact HS0)) (fun hHeld => ?_)
            clear hK K
            (try simp only [Act.put, List.setIfInBounds_toArray, List.set_cons_zero, List.set_cons_succ])
            refine wpAnyH_ready (rs := [23]) (by kernel_rfl) (by simp) ?_
            refine AllReadyH.cons (o := _) rfl (fun K hK => ?_) ?_
            · refine step_app rfl (.tmp 19) (.tmp 40) 43 rfl (w.heap.size + 1 + 1) 91 iR _ 3 40 Try.underlying43 hiR hzR0 hzR1 hzR2 rfl (by decide) (.slice A1 k c1) k ((gs.map rpCs).flatten) (by simp [Act.eval, Act.put]) hROW (some ⟨w4.heap.size, 0, none⟩) 1 1 [.bool up, .slice B1 nl b1, .int .i64 su] (by simp [Act.eval, Act.put]) rfl (fun _ => ⟨_, rfl, World.news_of_block (cs := #[.bool up, .slice B1 nl b1, .int .i64 su]) (t := 91) (fr := (0, 0)) hNEW⟩) (by simp [Value.oneCell']) (by unfold maxLen; omega) (by omega) hWS ?_
              intro v5 w5 hown5 hgr5 hat5
              obtain ⟨A5, c5, rfl, hS5, hS6, t0, ft, HREL⟩ := own9_app hb4 HBB.out hlc hS4a HB.out HKA.out HKB.out HKC.out hOW hX4 hLS HGL.out HLO.out hown5 hgr5 hat5
              refine hK.out _ _ (by (first | with_reducible exact hS6 _ | with_reducible exact hS5 | with_reducible exact hS4a _ | with_reducible exact hS4 | with_reducible exact HS0)) (fun hHeld => ?_)
              clear hK K
              (try simp only [Act.put, List.setIfInBounds_toArray, List.set_cons_zero, List.set_cons_succ])
              refine wpAnyH_take (i := 24) (oi := _) (v := ?_) rfl (by kernel_rfl) (by kernel_rfl) (by kernel_rfl) (fun _ _ _ h => h) (Or.inl ⟨by rfl, ?_⟩) (by assumption) ?_
              rotate_left
              · intro W hSw
                (try dsimp only at hSw)
                go_simp
                (try with_reducible rfl)
              (try simp only [Act.put, List.setIfInBounds_toArray, List.set_cons_zero, List.set_cons_succ])
              refine wpAnyH_ready (rs := [25]) (by kernel_rfl) (by simp) ?_
              refine AllReadyH.cons (o := _) rfl (fun K hK => ?_) ?_
              · go_simp
                refine hK.out _ _ (by (first | with_reducible exact hS6 _ | with_reducible exact hS5 | with_reducible exact hS4a _ | with_reducible exact hS4 | with_reducible exact HS0)) (fun hHeld => ?_)
                clear hK K
                (try simp only [Act.put, List.setIfInBounds_toArray, List.set_cons_zero, List.set_cons_succ])
                refine wpAnyH_done (by kernel_rfl) ?_ _
                obtain ⟨hO6, hF6, hB6, hA6, hBB6, hC6⟩ := HREL
                have HR6 := Lib.hid (And.intro hO6 (And.intro hF6 (And.intro hB6 (And.intro hA6 (And.intro hBB6 hC6)))))
                have HD4 := Lib.hid hd4
                clear hO6 hF6 hB6 hA6 hBB6 hC6 hd4 t0 ft hS5 hS6 hS4 hS4a y0 y0a hX4 hOW hROW hNEW hWS hLS hown5 hgr5 hat5 ho4 hb4 hb4' HS0 z0
                go_wp2
                go_roundw
                case rel =>
                  refine ⟨ds ++ [⟨up, su, Al, cl, es, rlo, rhi⟩], t, gs ++ [(⟨up, su, B1, b1, ls, wr.heap.size, w4.heap.size⟩ : RH)], A5, k + 1, c5, ?_, ?_, ?_, by go_num, Lib.hid HR6.out.1, Lib.hid HR6.out.2.1, Lib.hid HR6.out.2.2.1, Lib.hid HR6.out.2.2.2.1, Lib.hid HR6.out.2.2.2.2.1, Lib.hid HR6.out.2.2.2.2.2⟩
                  · show _ = _; rw [HS.out]; simp
                  · show _ = _; rw [List.map_append, List.map_append, HG.out]; simp only [List.map_cons, List.map_nil, rdat, HD4.out]
                  · show _ = _; rw [List.length_append, HK.out]; rfl
                case measure => simp [intOf]; omega
              exact AllReadyH.nil
            exact AllReadyH.nil
          exact AllReadyH.nil
        exact AllReadyH.nil
      exact AllReadyH.nil
    | nil =>
      have hjn : k = n := by simpa using hlen
      subst hjn
      have a1 := cell_blk (i := 1) HKC.out rfl
      have a2 := cell_blk (i := 2) HKC.out rfl
      have b0 := cell_blk (i := 0) HKB.out rfl
      have b1 := cell_blk (i := 1) HKB.out rfl
      have b2 := cell_blk (i := 2) HKB.out rfl
      have fb := free_all HKB.out
      have HDD := Lib.hid (show gs.map rdat = hs.map rdat by rw [HG.out, HS.out, List.append_nil])
      have HOW := Lib.hid (HO.out.wider (lo' := w.heap.size + 1 + 1) (Nat.le_refl _) (Nat.le_refl _))
      go_wp2
      exact bodyPost_ret (v := .agg #[.slice A1 k c1, .int .i64 tm, .int .i64 ld]) (by simp [results, Try.results59, go_sem, *]) rfl ⟨A1, c1, gs, rfl, HDD.out,
        (HOW.out.keep (keep_putN (g := w.heap.size + 1) (.inl (Nat.lt_succ_self _)) 0 [.slice A1 k c1, .int .i64 tm, .int .i64 ld])).wider (by omega) (by simp [World.setCell]),
        below_putN HB.out (show w.heap.size ≤ w.heap.size + 1 by omega) 0 [.slice A1 k c1, .int .i64 tm, .int .i64 ld]⟩

end Go.Proofs.Ytkhndofplebcaaa.Gr
