/-
  Contracts for the model's drawing of texts: any1, long, spoilt, DrawSumOf, DrawSealBytes, DrawOpenSeal.
-/
import Derived.Test.YtodfefaknclemaaCur
import Derived.Test.YtodfefaknclemaaMark
import Derived.Test.YtodfefaknclemaaSeal
namespace Go.Proofs.Ytodfefaknclemaa
open Go.RowKit
set_option linter.unusedVariables false

/-- The texts of any1. -/
def anyTexts : List ByteArray := [⟨#[]⟩, ⟨#[97]⟩, ⟨#[114, 111, 119]⟩, ⟨#[97, 32, 108, 111, 110, 103, 32, 116, 101, 120, 116, 32, 111, 102, 32, 115, 111, 109, 101, 32, 119, 111, 114, 100, 115]⟩, ⟨#[0, 255]⟩,
  ⟨#[48, 49, 50, 51, 52, 53, 54, 55, 56, 57, 48, 49, 50, 51, 52, 53, 54, 55, 56, 57, 48, 49, 50, 51, 52, 53, 54, 55, 56, 57, 48, 49, 50, 51, 52, 53, 54, 55, 56, 57, 48, 49, 50, 51, 52, 53, 54, 55, 56, 57, 48, 49, 50, 51, 52, 53, 54, 55, 56, 57, 48]⟩]
theorem anyTexts_len : anyTexts.length = 6 := rfl
theorem anyTexts_all : ∀ x ∈ anyTexts, x.size ≤ 61 := by decide
theorem anyTexts_size : ∀ k (h : k < anyTexts.length), anyTexts[k].size ≤ 61 := fun k h => anyTexts_all _ (List.getElem_mem h)
/-- A new block of strings reads as the list. -/
theorem new_strs (w : World) (xs : List ByteArray) : ∀ k (h : k < xs.length), (w.alloc (.cells (xs.map Value.string).toArray 9)).cell? ⟨w.heap.size, k, none⟩ = some (.string xs[k]) := by
  intro k hk
  rw [cell_of_row _ w.heap.size k _ 9 (0, 0) (heap_alloc_new w _)]
  simp [List.getElem?_eq_getElem hk]

theorem StrPost.from {w w1 w' : World} {g : Nat} {l : List UInt8} {A : Option Addr} {c q q1 d d1 m : Nat} {e : Ending} (h : StrPost w1 g l A c q1 d m e w') (hg : w.grownBy w1 (some g)) (hq : q1 + d ≤ q + d1) : StrPost w g l A c q d1 m e w' := by
  obtain ⟨t, q', he, hm, hq', hC, hG⟩ := h
  exact ⟨t, q', he, hm, by omega, hC, grown_trans hg hG⟩

set_option maxRecDepth 100000 in
set_option maxHeartbeats 1000000 in
theorem any1_any (g : Nat) (l : List UInt8) (A : Option Addr) (c q : Nat) (w : World) (h : Cur w g l A c q) (hl : l.length ≤ 1048576) (hq : q ≤ 900000000) :
    Calls Try.prog 53 #[.pointer (some ⟨g, 0, none⟩)] w (StrPost w g l A c q 2 61) := by
  have hlt := h.lt
  have hC := h.below ((Below.refl _ _).alloc (Nat.le_refl _) (.cells (anyTexts.map Value.string).toArray 9))
  have HO := Lib.hid (of_any g l A c q w.heap.size 6 6 61 anyTexts _ hC hl hq rfl (by omega) (by omega) (by omega) (new_strs w anyTexts) anyTexts_size)
  clear h hC
  go_enter Try.func53, Try.ntmps53
  go_wp2_with fail
  refine HO.out.mono ?_
  intro e w1 hres
  obtain ⟨t, q', rfl, hm, hq', hC, hG⟩ := hres
  go_wp2
  go_ret
  exact ⟨t, q', rfl, hm, hq', hC, grown_trans (World.grownBy_alloc w _ (some g)) hG⟩

theorem B8_set (L : List UInt8) (k : Nat) (b : UInt8) (x : Int) (hx : (b.toNat : Int) = x) : (B8 L).set k (.int .u8 x) = B8 (L.set k b) := by
  subst hx
  simp [B8, List.map_set]
theorem zeros8 (n : Nat) : (madeCells (Value.int IntKind.u8 0).cells (n * 1)).toList = B8 (List.replicate n 0) := by
  have hz : (Value.int IntKind.u8 0).cells = #[.int .u8 0] := rfl
  rw [Nat.mul_one, hz]
  apply List.ext_getElem
  · simp [B8, size_madeCells]
  · intro i h1 h2
    simp [madeCells, B8, Nat.mod_one]

/-- A number that a walk has drawn, as a natural number. -/
theorem nat_of {x : Int} (h : 0 ≤ x) : ∃ k : Nat, x = (k : Int) := Int.eq_ofNat_of_zero_le h

set_option maxRecDepth 100000 in
set_option maxHeartbeats 1000000 in
theorem long_any (g : Nat) (l : List UInt8) (A : Option Addr) (c q : Nat) (w : World) (h : Cur w g l A c q) (hl : l.length ≤ 1048576) (hq : q ≤ 900000000) :
    Calls Try.prog 71 #[.pointer (some ⟨g, 0, none⟩)] w (fun e w' => ∃ (t : ByteArray) (q' : Nat), e = .returned (.string t) ∧ 5996 ≤ t.size ∧ t.size ≤ 6001 ∧ q' ≤ q + 2 ∧ Cur w' g l A c q' ∧ w.grownBy w' (some g)) := by
  have H := Lib.hid h
  obtain ⟨i0, hi, hz0, hz1, hz2⟩ := info_parts info5
  clear h
  go_enter Try.func71, Try.ntmps71
  go_wp2_with fail
  refine (pick_any g l A c q 6 _ H.out hl hq (by omega) (by omega)).mono ?_
  rintro e w1 ⟨x, q1, hx0, hx1, rfl, hq1, hC1, hG1⟩
  obtain ⟨k0, rfl⟩ := nat_of hx0
  obtain ⟨n, hn⟩ : ∃ n, n = 5996 + k0 := ⟨_, rfl⟩
  have hn1 : 5996 ≤ n := by omega
  have hn2 : n ≤ 6001 := by omega
  have HN := Lib.hid hn
  have hk5 : (k0 : Int) ≤ 5 := by omega
  clear hn hx1
  go_wp2_with (at_make; refine wpList_make_full _ rfl (.tmp 7) (.tmp 7) 22 rfl w1.heap.size 5 i0 _ 1 Try.underlying22 hi hz0 hz1 .i64 .i64 _ _ n rfl rfl (by have := HN.out; omega) (by have := HN.out; omega) (by rw [hz2]; omega) (by unfold maxLen; omega) (Nat.le_refl _) ?_; intro w2 hown hgr)
  have hb2 : Below w1.heap.size w1 w2 := (Below.refl _ _).grown hgr (Nat.le_refl _) (by simp)
  rw [zeros8] at hown
  have hL0 : (List.replicate n (0 : UInt8)).length = n := by simp
  have hC2 := hC1.below hb2
  have HOWN := Lib.hid (show ∃ L : List UInt8, L.length = n ∧ w2.ownsRow w1.heap.size 5 1 (.slice (some ⟨w1.heap.size, 0, none⟩) n n) n (B8 L) from ⟨_, hL0, hown⟩)
  clear hown hgr hL0
  go_loopw [11] (fun i wr => ∃ k : Nat, k ≤ n ∧ i = .int .i64 k ∧ Below w1.heap.size w1 wr ∧ Hid (∃ L : List UInt8, L.length = n ∧ wr.ownsRow w1.heap.size 5 1 (.slice (some ⟨w1.heap.size, 0, none⟩) n n) n (B8 L))) (fun i _ => n - (intOf i).toNat)
  case atStart => exact ⟨0, by omega, rfl, hb2, HOWN⟩
  case round =>
    clear hb2 hC2 HOWN
    obtain ⟨k, hk, rfl, hb, HL⟩ := hrel
    obtain ⟨L, hLn, hown⟩ := HL.out
    have HLN := Lib.hid hLn
    have hlen : L.length = L.length := rfl
    by_cases hlt : k < n
    · have hcell : wr.cell? ⟨w1.heap.size, k, none⟩ = some (.int .u8 ((L.getD k 0).toNat : Int)) := by
        rw [hown.cellAt k (by omega)]
        simp [B8, List.getD, List.getElem?_eq_getElem (show k < L.length by omega)]
      have hfr := hown.frozenAt k
      have hst := (hown.stored k (.int .u8 (97 + (k : Int) % 7))).1
      have hx : ((UInt8.ofNat (97 + k % 7)).toNat : Int) = 97 + (k : Int) % 7 := by rw [b8_of _ (by omega)]; omega
      rw [B8_set L k _ _ hx] at hst
      have HST := Lib.hid hst
      obtain ⟨y, hy⟩ : ∃ y : Int, y = ((L.getD k 0).toNat : Int) := ⟨_, rfl⟩
      rw [← hy] at hcell
      clear hown hst hx hLn hlen hy
      go_wp2
      go_roundw
      case rel => exact ⟨k + 1, by omega, by go_num, hb.setCell (p := ⟨w1.heap.size, k, none⟩) (Nat.le_refl _) _, ⟨_, by have := HLN.out; simp; omega, HST.out⟩⟩
      case measure => simp [intOf]; omega
    · have hcv := conv_back hown
      have hsz := size_of_list L
      rw [hLn] at hsz
      have HSZ := Lib.hid hsz
      clear hsz hlen hLn hown
      go_wp2
      go_ret
      exact ⟨_, q1, rfl, by have := HSZ.out; omega, by have := HSZ.out; omega, hq1, hC1.below hb, grown_below hG1 hb⟩

theorem size_one (b : UInt8) : (⟨#[b]⟩ : ByteArray).size = 1 := rfl
theorem sp1 (r : ByteArray) (i : Nat) (b : UInt8) (h : i ≤ r.size) : (r.extract 0 i ++ ⟨#[b]⟩ ++ r.extract i r.size).size = r.size + 1 := by
  rw [ByteArray.size_append, ByteArray.size_append, ByteArray.size_extract, ByteArray.size_extract, size_one]; omega
theorem sp2 (r : ByteArray) (i : Nat) (b : UInt8) (h : i < r.size) : (r.extract 0 i ++ ⟨#[b]⟩ ++ r.extract (i + 1) r.size).size = r.size := by
  rw [ByteArray.size_append, ByteArray.size_append, ByteArray.size_extract, ByteArray.size_extract, size_one]; omega
theorem sp3 (r : ByteArray) (i : Nat) (h : i < r.size) : (r.extract 0 i ++ r.extract (i + 1) r.size).size = r.size - 1 := by
  rw [ByteArray.size_append, ByteArray.size_extract, ByteArray.size_extract]; omega

set_option maxRecDepth 100000 in
set_option maxHeartbeats 2000000 in
theorem spoilt_any (g : Nat) (l : List UInt8) (A : Option Addr) (c q : Nat) (t v : ByteArray) (w : World) (h : Cur w g l A c q) (hl : l.length ≤ 1048576) (hq : q ≤ 800000000) (ht : t.size ≤ 6000) (hv : 1 ≤ v.size) (hv2 : v.size ≤ 100) :
    Calls Try.prog 73 #[.pointer (some ⟨g, 0, none⟩), .string t, .string v] w (StrPost w g l A c q 20 (t.size + 2)) := by
  have H := Lib.hid h
  clear h
  go_enter Try.func73, Try.ntmps73
  go_wp2_with fail
  refine (pick_any g l A c q 2 _ H.out hl (by omega) (by omega) (by omega)).mono ?_
  rintro e w1 ⟨x, q1, hx0, hx1, rfl, hq1, hC1, hG1⟩
  go_wp2_with fail
  go_loopw [1, 7] (fun s n wr => ∃ (r : ByteArray) (m q' : Nat), s = .string r ∧ n = .int .i64 (m : Int) ∧ m ≤ 2 ∧ r.size + m ≤ t.size + 2 ∧ q' + 6 * m ≤ q + 20 ∧ Cur wr g l A c q' ∧ w.grownBy wr (some g)) (fun _ n _ => (intOf n).toNat)
  case atStart =>
    obtain ⟨k0, rfl⟩ := nat_of hx0
    exact ⟨t, 1 + k0, q1, rfl, by go_num, by omega, by omega, by omega, hC1, hG1⟩
  case round =>
    clear hC1 hG1
    obtain ⟨r, m, q', rfl, rfl, hm, hr, hq', hC, hG⟩ := hrel
    by_cases hm0 : 0 < m
    · by_cases hr0 : 0 < r.size
      · go_wp2_with fail
        refine (pick_any g l A c q' (r.size : Int) _ hC hl (by omega) (by omega) (by omega)).mono ?_
        rintro e w2 ⟨i, q2, hi0, hi1, rfl, hq2, hC2, hG2⟩
        obtain ⟨i, rfl⟩ := nat_of hi0
        go_wp2_with fail
        refine (pick_any g l A c q2 (v.size : Int) _ hC2 hl (by omega) (by omega) (by omega)).mono ?_
        rintro e w3 ⟨j, q3, hj0, hj1, rfl, hq3, hC3, hG3⟩
        obtain ⟨j, rfl⟩ := nat_of hj0
        have hjv : j < v.size := by omega
        have hji : (j : Int) < (v.size : Int) := by omega
        have hcv := fun (W : World) => conv_one W v[j] (v[j].toNat : Int) rfl
        have hir : (i : Int) ≤ (r.size : Int) := by omega
        have hir1 : (i : Int) + 1 ≤ (r.size : Int) := by omega
        have hrs : (r.size : Int) ≤ 6002 := by omega
        go_wp2_with fail
        refine (pick_any g l A c q3 3 _ (hC3.below ((Below.refl _ _).alloc (Nat.le_refl _) _)) hl (by omega) (by omega) (by omega)).mono ?_
        rintro e w4 ⟨y, q4, hy0, hy1, rfl, hq4, hC4, hG4⟩
        have hG04 := grown_trans (grown_trans (grown_trans hG hG2) hG3) (grown_trans (World.grownBy_alloc w3 _ (some g)) hG4)
        have hy : y = 0 ∨ y = 1 ∨ y = 2 := by omega
        clear hcv hG hG2 hG3 hG4 hC hC2 hC3
        rcases hy with rfl | rfl | rfl
        · go_wp2_with fail
          go_quiet (fail)
          go_wp2
          go_roundw
          case rel => exact ⟨_, m - 1, q4, rfl, by go_num, by omega, by rw [sp1 r i _ (by omega)]; omega, by omega, hC4.drewN _, grown_drewN hG04 _⟩
          case measure => simp [intOf]; omega
        · go_wp2_with fail
          go_quiet (fail)
          go_wp2
          go_roundw
          case rel => exact ⟨_, m - 1, q4, rfl, by go_num, by omega, by rw [sp2 r i _ (by omega)]; omega, by omega, hC4.drewN _, grown_drewN hG04 _⟩
          case measure => simp [intOf]; omega
        · go_wp2_with fail
          go_quiet (fail)
          go_wp2
          go_roundw
          case rel => exact ⟨_, m - 1, q4, rfl, by go_num, by omega, by rw [sp3 r i (by omega)]; omega, by omega, hC4.drewN _, grown_drewN hG04 _⟩
          case measure => simp [intOf]; omega
      · go_wp2
        go_ret
        exact ⟨r, q', rfl, by omega, by omega, hC, hG⟩
    · go_wp2
      go_ret
      exact ⟨r, q', rfl, by omega, by omega, hC, hG⟩

theorem BytesAt.toBelow {w : World} {A : Option Addr} {l : List UInt8} (h : BytesAt w A l) : BytesBelow w A l w.heap.size := by
  rcases h with h | ⟨b, off, hA, hb, hc⟩
  · exact .inl h
  · exact .inr ⟨b, off, hA, hb, hc⟩
/-- A new cursor. -/
theorem cur_new (w : World) (l : List UInt8) (A : Option Addr) (c : Nat) (h : BytesAt w A l) :
    Cur (w.alloc (.cells #[.slice A l.length c, .int .i64 ((0 : Nat) : Int), .int .u64 0] 52)) w.heap.size l A c 0 := by
  refine ⟨⟨0, by unfold U64; omega, heap_alloc_new w _⟩, ?_⟩
  have hb := (Below.refl w.heap.size w).alloc (Nat.le_refl _) (.cells #[.slice A l.length c, .int .i64 ((0 : Nat) : Int), .int .u64 0] 52)
  exact h.toBelow.keep fun p hp => hb.cell hp
/-- What a call over a new cursor leaves of the world. -/
theorem below_new {w w' : World} {o : Obj} (hG : (w.alloc o).grownBy w' (some w.heap.size)) : Below w.heap.size w w' :=
  (((Below.refl _ _).alloc (Nat.le_refl _) _).trans (below_of_grown hG (Nat.le_refl _) (by simp)))

/-- Some text of at most m bytes. -/
def DrawnPost (w : World) (m : Nat) (e : Ending) (w' : World) : Prop := ∃ t : ByteArray, e = .returned (.string t) ∧ t.size ≤ m ∧ Below w.heap.size w w'

set_option maxRecDepth 100000 in
set_option maxHeartbeats 1000000 in
theorem drawSumOf_any (A : Option Addr) (n c : Nat) (l : List UInt8) (w : World) (hn : l.length = n) (h : BytesAt w A l) (hl : n ≤ 1048576) :
    Calls Try.prog 41 #[.slice A n c] w (DrawnPost w 6001) := by
  subst hn
  have HC := Lib.hid (cur_new w l A c h)
  clear h
  go_enter Try.func41, Try.ntmps41
  go_wp2_with fail
  refine (one_any w.heap.size l A c 0 12 _ HC.out hl (by omega) (by omega) (by omega)).mono ?_
  rintro e w1 ⟨x, q1, rfl, hq1, hC1, hG1⟩
  cases x with
  | true =>
    go_wp2_with fail
    refine (long_any w.heap.size l A c q1 _ hC1 hl (by omega)).mono ?_
    rintro e w2 ⟨t, q2, rfl, ht1, ht2, hq2, hC2, hG2⟩
    go_wp2
    go_ret
    exact ⟨t, rfl, ht2, below_new (grown_trans hG1 hG2)⟩
  | false =>
    go_wp2_with fail
    refine (any1_any w.heap.size l A c q1 _ hC1 hl (by omega)).mono ?_
    rintro e w2 ⟨t, q2, rfl, ht, hq2, hC2, hG2⟩
    go_wp2_with fail
    refine (any1_any w.heap.size l A c q2 _ hC2 hl (by omega)).mono ?_
    rintro e w3 ⟨s, q3, rfl, hs, hq3, hC3, hG3⟩
    go_wp2
    go_ret
    exact ⟨t ++ s, rfl, by rw [ByteArray.size_append]; omega, below_new (grown_trans hG1 (grown_trans hG2 hG3))⟩

set_option maxRecDepth 100000 in
set_option maxHeartbeats 1000000 in
theorem drawSealBytes_any (A : Option Addr) (n c : Nat) (l : List UInt8) (w : World) (hn : l.length = n) (h : BytesAt w A l) (hl : n ≤ 1048576) :
    Calls Try.prog 34 #[.slice A n c] w (DrawnPost w 6001) := by
  have HD := Lib.hid (drawSumOf_any A n c l w hn h hl)
  clear h hn
  go_enter Try.func34, Try.ntmps34
  go_wp2_with fail
  refine HD.out.mono ?_
  rintro e w1 ⟨t, rfl, ht, hb⟩
  go_wp2
  go_ret
  exact ⟨t, rfl, ht, hb⟩

set_option maxRecDepth 100000 in
set_option maxHeartbeats 2000000 in
theorem drawOpenSeal_any (A : Option Addr) (n c : Nat) (l : List UInt8) (w : World) (hn : l.length = n) (h : BytesAt w A l) (hl : n ≤ 1048576) :
    Calls Try.prog 39 #[.slice A n c] w (DrawnPost w 7000) := by
  subst hn
  have HC := Lib.hid (cur_new w l A c h)
  clear h
  go_enter Try.func39, Try.ntmps39
  go_wp2_with fail
  refine (any1_any w.heap.size l A c 0 _ HC.out hl (by omega)).mono ?_
  rintro e w1 ⟨t, q1, rfl, ht, hq1, hC1, hG1⟩
  go_wp2_with fail
  refine (l1Seal_any t _ (by omega)).mono ?_
  rintro e w2 ⟨rfl, hb2⟩
  have hC2 := hC1.below hb2
  have hG2 := grown_below hG1 hb2
  obtain ⟨s, hs⟩ : ∃ s : ByteArray, s = ⟨(t.data.toList ++ three (M.sumL t.data.toList)).toArray⟩ := ⟨_, rfl⟩
  have hss : s.size = t.size + 3 := by rw [hs, size_of_list, List.length_append]; simp [three]
  have hs64 : s.size ≤ 64 := by omega
  rw [← hs]
  clear hs hss hC1 hG1 hb2
  go_wp2_with fail
  refine (one_any w.heap.size l A c q1 12 _ hC2 hl (by omega) (by omega) (by omega)).mono ?_
  rintro e w3 ⟨x, q3, rfl, hq3, hC3, hG3⟩
  cases x with
  | true =>
    go_wp2_with fail
    refine (long_any w.heap.size l A c q3 _ hC3 hl (by omega)).mono ?_
    rintro e w4 ⟨b, q4, rfl, hb1, hb2, hq4, hC4, hG4⟩
    obtain ⟨k, hk⟩ : ∃ k, b.size = k + 3 := ⟨b.size - 3, by omega⟩
    have hk3 : (b.size : Int) - 3 = (k : Int) := by omega
    have hk0 : (0 : Int) ≤ (k : Int) := by omega
    have hkb : (k : Int) ≤ (b.size : Int) := by omega
    have HK := Lib.hid hk
    clear hk
    go_wp2_with fail
    refine (l1Seal_any (b.extract 0 k) _ (by rw [ByteArray.size_extract]; omega)).mono ?_
    rintro e w5 ⟨rfl, hb5⟩
    go_wp2
    go_ret
    refine ⟨_, rfl, ?_, below_new (grown_below (grown_trans hG2 (grown_trans hG3 hG4)) hb5)⟩
    have e1 : b.data.toList.length = b.size := by simp
    rw [size_of_list, List.length_append, List.length_take]
    simp only [three, List.length_cons, List.length_nil]
    omega
  | false =>
    go_wp2_with fail
    refine (pick_any w.heap.size l A c q3 4 _ hC3 hl (by omega) (by omega) (by omega)).mono ?_
    rintro e w4 ⟨y, q4, hy0, hy1, rfl, hq4, hC4, hG4⟩
    have hG04 := grown_trans hG2 (grown_trans hG3 hG4)
    by_cases hyz : y = 0
    · subst hyz
      go_wp2_with fail
      refine (spoilt_any w.heap.size l A c q4 s ⟨#[0, 1, 97]⟩ _ hC4 hl (by omega) (by omega) (by decide) (by decide)).mono ?_
      rintro e w5 ⟨r, q5, rfl, hr, hq5, hC5, hG5⟩
      go_wp2
      go_ret
      exact ⟨r, rfl, by omega, below_new (grown_trans hG04 hG5)⟩
    · by_cases hyo : y = 1
      · subst hyo
        go_wp2_with fail
        refine (pick_any w.heap.size l A c q4 ((s.size : Int) + 1) _ hC4 hl (by omega) (by omega) (by omega)).mono ?_
        rintro e w5 ⟨i, q5, hi0, hi1, rfl, hq5, hC5, hG5⟩
        obtain ⟨i, rfl⟩ := nat_of hi0
        have his : (i : Int) ≤ (s.size : Int) := by omega
        go_wp2
        go_ret
        exact ⟨s.extract 0 i, rfl, by rw [ByteArray.size_extract]; omega, below_new (grown_trans hG04 hG5)⟩
      · have hz0 : (y == 0) = false := by simpa using hyz
        have hz1 : (y == 1) = false := by simpa using hyo
        clear hyz hyo
        go_wp2
        go_ret
        exact ⟨s, rfl, by omega, below_new hG04⟩
end Go.Proofs.Ytodfefaknclemaa
