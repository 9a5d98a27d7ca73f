/-
  Contracts for the model's drawing of bytes to be read, and for sameTexts, for the law FnBytes.
-/
import Derived.Test.YtodfefaknclemaaDraw3
namespace Go.Proofs.Ytodfefaknclemaa
open Go.RowKit
set_option linter.unusedVariables false

/-- Some list of at most 41 texts of at most 61 bytes. -/
def ListPost (w : World) (e : Ending) (w' : World) : Prop :=
  ∃ (xs : List ByteArray) (A' : Option Addr) (c' : Nat), e = .returned (.slice A' xs.length c') ∧ StrsAt w' A' xs ∧ xs.length ≤ 41 ∧ (∀ x ∈ xs, x.size ≤ 61) ∧ Below w.heap.size w w'

set_option maxRecDepth 100000 in
set_option maxHeartbeats 1000000 in
theorem drawTextsBytes_any (A : Option Addr) (n c : Nat) (l : List UInt8) (w : World) (hn : l.length = n) (h : BytesAt w A l) (hl : n ≤ 1048576) :
    Calls Try.prog 21 #[.slice A n c] w (ListPost w) := by
  subst hn
  have HC := Lib.hid (cur_new w l A c h)
  clear h
  go_enter Try.func21, Try.ntmps21
  go_wp2_with fail
  refine (texts_any w.heap.size l A c 0 _ HC.out hl (by omega)).mono ?_
  rintro e w1 ⟨xs, A', c', q1, rfl, hst, hx1, hx2, hq1, hC1, hG1⟩
  have HX := Lib.hid hx2
  clear hx2
  go_wp2
  go_ret
  exact ⟨xs, A', c', rfl, hst, hx1, HX.out, below_new hG1⟩

theorem tsum_len2 (xs : List ByteArray) (k : Nat) (hk : k ≤ xs.length) (h : ∀ x ∈ xs, x.size ≤ 61) : (tsum xs k).length ≤ 10 + 71 * k := by
  induction k with
  | zero => rw [tsum_zero]; have := M.numB_len xs.length; omega
  | succ k ih =>
    rw [tsum_step xs k (by omega), List.length_append]
    have h1 := ih (by omega)
    have h2 := h xs[k] (List.getElem_mem _)
    have h3 := M.numB_len xs[k].data.toList.length
    have e : xs[k].data.toList.length = xs[k].size := by simp
    unfold textB
    rw [List.length_append]
    omega

set_option maxRecDepth 100000 in
set_option maxHeartbeats 1000000 in
theorem l1TextsB_gen (A : Option Addr) (n c : Nat) (xs : List ByteArray) (w : World) (hn : xs.length = n) (h : StrsAt w A xs) (hn40 : n ≤ 41) (hg : ∀ x ∈ xs, x.size ≤ 61) :
    Calls Try.prog 58 #[.slice A n c] w fun e w' => e = .returned (.string ⟨(tsum xs xs.length).toArray⟩) ∧ Below w.heap.size w w' := by
  have HN := Lib.hid hn
  have hge := Nat.le_of_eq hn
  have hle := Nat.le_of_eq hn.symm
  have HS := Lib.hid h
  have HGD := Lib.hid hg
  have HT0 := Lib.hid (tsum_zero xs)
  clear hn h hg
  go_enter Try.func58, Try.ntmps58
  go_wp2_with fail
  refine (l1NumB_any n _ (by omega)).mono ?_
  rintro e w1 ⟨rfl, hb1⟩
  go_wp2_with fail
  go_loopw [3, 11] (fun v i wr => ∃ k : Nat, k ≤ n ∧ i = .int .i64 k ∧ v = .string ⟨(tsum xs k).toArray⟩ ∧ Below w.heap.size w wr) (fun _ i _ => n - (intOf i).toNat)
  case atStart => exact ⟨0, by omega, rfl, by rw [HT0.out, HN.out], hb1⟩
  case round =>
    clear hb1
    obtain ⟨k, hk, rfl, rfl, hb⟩ := hrel
    by_cases hlt : k < n
    · obtain ⟨b, off, rfl, hbs, hc⟩ := str_len HS.out k (by omega)
      have hck := (hb.cell (p := ⟨b, off + k, none⟩) hbs).trans hc
      have hsz := HGD.out xs[k] (List.getElem_mem _)
      have HL := tsum_len2 xs k (by omega) HGD.out
      have hnl := M.numB_len xs[k].data.toList.length
      have hadd := fun (W : World) => run_string_add_sum (P := Try.prog) (w := W) ⟨(tsum xs k).toArray⟩ ⟨(textB xs[k].data.toList).toArray⟩ (by
        rw [size_of_list, size_of_list]; unfold textB; rw [List.length_append]; have e : xs[k].data.toList.length = xs[k].size := by simp
        omega)
      have e0 : (⟨(tsum xs k).toArray⟩ : ByteArray) ++ ⟨(textB xs[k].data.toList).toArray⟩ = ⟨(tsum xs (k + 1)).toArray⟩ := by
        rw [tsum_step xs k (by omega)]
        apply ByteArray.ext
        apply Array.ext'
        simp
      simp only [e0] at hadd
      have HA := Lib.hid (fun W => l1TextB_any xs[k] W (by omega))
      clear hc e0 hnl
      go_wp2_with fail
      refine (HA.out _).mono ?_
      rintro e w2 ⟨rfl, hb2⟩
      go_wp2
      go_roundw
      case rel => exact ⟨k + 1, by omega, by go_num, rfl, hb.trans (hb2.mono hb.size)⟩
      case measure => simp [intOf]; omega
    · have hkn : k = xs.length := by omega
      have HK := Lib.hid hkn
      clear hkn
      go_wp2
      go_ret
      exact ⟨by rw [HK.out]; rfl, hb⟩

/-- Some bytes of at most 6000, and a place from -1 to 1. -/
def ReadPost (w : World) (e : Ending) (w' : World) : Prop :=
  ∃ (t : ByteArray) (x : Int), e = .returned (.tuple #[.string t, .int .i64 x]) ∧ t.size ≤ 6000 ∧ -1 ≤ x ∧ x ≤ 1 ∧ Below w.heap.size w w'

set_option maxRecDepth 100000 in
set_option maxHeartbeats 1000000 in
theorem drawReadNum_any (A : Option Addr) (n c : Nat) (l : List UInt8) (w : World) (hn : l.length = n) (h : BytesAt w A l) (hl : n ≤ 1048576) :
    Calls Try.prog 28 #[.slice A n c] w (ReadPost w) := by
  subst hn
  have hC := cur_new w l A c h
  have hCa := hC.below ((Below.refl _ _).alloc (Nat.le_refl _) (.cells (nums6.map (Value.int .i64)).toArray 3))
  have hsz : (w.alloc (.cells #[.slice A l.length c, .int .i64 ((0 : Nat) : Int), .int .u64 0] 52)).heap.size = w.heap.size + 1 := by simp
  have hci := new_ints (w.alloc (.cells #[.slice A l.length c, .int .i64 ((0 : Nat) : Int), .int .u64 0] 52)) nums6
  rw [hsz] at hci
  have hA := among_any w.heap.size l A c 0 (w.heap.size + 1) 6 6 0 1000000000 nums6 _ hCa hl (by omega) rfl (by omega) (by omega) (by omega) hci (fun k hk => nums6_all _ (List.getElem_mem hk))
  simp only [nums6, List.map_cons, List.map_nil] at hA
  have HA := Lib.hid hA
  clear h hC hCa hsz hci hA
  go_enter Try.func28, Try.ntmps28
  go_wp2_with fail
  refine HA.out.mono ?_
  rintro e w1 ⟨x, q1, hx0, hx1, rfl, hq1, hC1, hG1⟩
  obtain ⟨m, rfl⟩ := nat_of hx0
  have hG01 := grown_trans (World.grownBy_alloc _ _ _) hG1
  go_wp2_with fail
  refine (l1NumB_any m _ (by omega)).mono ?_
  rintro e w2 ⟨rfl, hb2⟩
  have hC2 := hC1.below hb2
  have hG2 := grown_below hG01 hb2
  have hs := size_of_list (M.numB m)
  have hs2 := M.numB_len m
  obtain ⟨t, ht⟩ : ∃ t : ByteArray, t = ⟨(M.numB m).toArray⟩ := ⟨_, rfl⟩
  rw [← ht] at hs ⊢
  have hts : t.size ≤ 10 := by omega
  clear hs hs2 ht hC1 hG1 hb2
  go_wp2_with fail
  refine (framed_tail w.heap.size l A c q1 t _ hC2 hl (by omega) (by omega)).mono ?_
  rintro e w3 ⟨r, y, rfl, hr, hy0, hy1, hG3⟩
  go_wp2
  go_ret2
  exact ⟨r, y, rfl, by omega, hy0, hy1, below_new (grown_trans hG2 hG3)⟩

set_option maxRecDepth 100000 in
set_option maxHeartbeats 1000000 in
theorem drawReadText_any (A : Option Addr) (n c : Nat) (l : List UInt8) (w : World) (hn : l.length = n) (h : BytesAt w A l) (hl : n ≤ 1048576) :
    Calls Try.prog 30 #[.slice A n c] w (ReadPost w) := by
  subst hn
  have HC := Lib.hid (cur_new w l A c h)
  clear h
  go_enter Try.func30, Try.ntmps30
  go_wp2_with fail
  refine (any1_any w.heap.size l A c 0 _ HC.out hl (by omega)).mono ?_
  rintro e w1 ⟨s, q1, rfl, hs, hq1, hC1, hG1⟩
  go_wp2_with fail
  refine (l1TextB_any s _ (by omega)).mono ?_
  rintro e w2 ⟨rfl, hb2⟩
  have hC2 := hC1.below hb2
  have hG2 := grown_below hG1 hb2
  have e1 : s.data.toList.length = s.size := by simp
  have hs1 : (textB s.data.toList).length ≤ 71 := by unfold textB; rw [List.length_append, e1]; have := M.numB_len s.size; omega
  have hs2 := size_of_list (textB s.data.toList)
  obtain ⟨t, ht⟩ : ∃ t : ByteArray, t = ⟨(textB s.data.toList).toArray⟩ := ⟨_, rfl⟩
  rw [← ht] at hs2 ⊢
  have hts : t.size ≤ 71 := by omega
  clear hs1 hs2 ht hC1 hG1 hb2 e1
  go_wp2_with fail
  refine (framed_tail w.heap.size l A c q1 t _ hC2 hl (by omega) (by omega)).mono ?_
  rintro e w3 ⟨r, y, rfl, hr, hy0, hy1, hG3⟩
  go_wp2
  go_ret2
  exact ⟨r, y, rfl, by omega, hy0, hy1, below_new (grown_trans hG2 hG3)⟩

set_option maxRecDepth 100000 in
set_option maxHeartbeats 1000000 in
theorem drawReadTexts_any (A : Option Addr) (n c : Nat) (l : List UInt8) (w : World) (hn : l.length = n) (h : BytesAt w A l) (hl : n ≤ 1048576) :
    Calls Try.prog 32 #[.slice A n c] w (ReadPost w) := by
  subst hn
  have HC := Lib.hid (cur_new w l A c h)
  clear h
  go_enter Try.func32, Try.ntmps32
  go_wp2_with fail
  refine (texts_any w.heap.size l A c 0 _ HC.out hl (by omega)).mono ?_
  rintro e w1 ⟨xs, A', c', q1, rfl, hst, hx1, hx2, hq1, hC1, hG1⟩
  have HX := Lib.hid hx2
  obtain ⟨k, hk⟩ : ∃ k, k = xs.length := ⟨_, rfl⟩
  have hlb := fun W hW => l1TextsB_gen A' k c' xs W hk.symm hW (by omega) HX.out
  have hs1 := tsum_len2 xs xs.length (Nat.le_refl _) HX.out
  have hs2 := size_of_list (tsum xs xs.length)
  obtain ⟨t, ht⟩ : ∃ t : ByteArray, t = ⟨(tsum xs xs.length).toArray⟩ := ⟨_, rfl⟩
  rw [← ht] at hs2 hlb
  have hts : t.size ≤ 2921 := by omega
  have HLB := Lib.hid hlb
  rw [← hk]
  have HS := Lib.hid hst
  clear hs1 hs2 ht hx1 hx2 hk hlb hst
  go_wp2_with fail
  refine (HLB.out _ HS.out).mono ?_
  rintro e w2 ⟨rfl, hb2⟩
  have hC2 := hC1.below hb2
  have hG2 := grown_below hG1 hb2
  go_wp2_with fail
  refine (framed_tail w.heap.size l A c q1 t _ hC2 hl (by omega) (by omega)).mono ?_
  rintro e w3 ⟨r, y, rfl, hr, hy0, hy1, hG3⟩
  go_wp2
  go_ret2
  exact ⟨r, y, rfl, by omega, hy0, hy1, below_new (grown_trans hG2 hG3)⟩

set_option maxRecDepth 100000 in
set_option maxHeartbeats 1000000 in
theorem same_any (A B : Option Addr) (n c d : Nat) (xs : List ByteArray) (w : World) (hn : xs.length = n) (h : StrsAt w A xs) (h' : StrsAt w B xs) (hl : n ≤ 1048576) :
    Calls Try.prog 27 #[.slice A n c, .slice B n d] w (EqPost w) := by
  have hge := Nat.le_of_eq hn
  have hle := Nat.le_of_eq hn.symm
  have HS := Lib.hid h
  have HS' := Lib.hid h'
  clear hn h h'
  go_enter Try.func27, Try.ntmps27
  go_wp2
  go_loopw [13] (fun i wr => ∃ k m : Nat, k ≤ n ∧ i = .int .i64 k ∧ wr = w.drewN m) (fun i _ => n - (intOf i).toNat)
  case atStart => exact ⟨0, 0, by omega, rfl, rfl⟩
  case round =>
    obtain ⟨k, m, hk, rfl, rfl⟩ := hrel
    by_cases hlt : k < n
    · rcases HS.out with h | ⟨b, off, rfl, hbs, hc⟩
      · subst h; simp only [List.length_nil] at hle; omega
      · rcases HS'.out with h | ⟨b', off', rfl, hbs', hc'⟩
        · subst h; simp only [List.length_nil] at hle; omega
        · have hck := hc k (by omega)
          have hck' := hc' k (by omega)
          have hk0 : (0 : Int) ≤ (k : Int) := by omega
          have hkn : (k : Int) < (n : Int) := by omega
          clear hc hc'
          go_wp2_with fail
          go_quiet (fail)
          go_wp2
          go_roundw
          case rel => exact ⟨k + 1, m + nq, by omega, by go_num, rfl⟩
          case measure => simp [intOf]; omega
    · go_wp2
      go_ret
      exact ⟨rfl, m, rfl⟩
end Go.Proofs.Ytodfefaknclemaa
