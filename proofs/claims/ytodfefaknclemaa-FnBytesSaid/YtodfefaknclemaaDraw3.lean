/-
  Contracts for the model's drawing of lists of texts and of bytes to be read, and for sameTexts, for the law FnBytes.
-/
import Derived.Test.YtodfefaknclemaaDraw2
namespace Go.Proofs.Ytodfefaknclemaa
open Go.RowKit
set_option linter.unusedVariables false

theorem Cur.belowB {w w' : World} {g c q B : Nat} {l : List UInt8} {A : Option Addr} (h : Cur w g l A c q) (hb : Below B w w') (hg : g < B) : Cur w' g l A c q := by
  obtain ⟨⟨sd, hu, hh⟩, hbb⟩ := h
  exact ⟨⟨sd, hu, (hb.block g hg).trans hh⟩, hbb.keep fun p hp => hb.cell (by omega)⟩
theorem zeros9 (n : Nat) : (madeCells (Value.string ⟨#[]⟩).cells (n * 1)).toList = S9 (List.replicate n ⟨#[]⟩) := by
  have hz : (Value.string ⟨#[]⟩).cells = #[.string ⟨#[]⟩] := rfl
  rw [Nat.mul_one, hz]
  apply List.ext_getElem
  · simp [S9, size_madeCells]
  · intro i h1 h2
    simp [madeCells, S9, Nat.mod_one]

/-- Some list of at most 41 texts of at most 61 bytes. -/
def TxPost (w : World) (g : Nat) (l : List UInt8) (A : Option Addr) (c q : Nat) (e : Ending) (w' : World) : Prop :=
  ∃ (xs : List ByteArray) (A' : Option Addr) (c' q' : Nat), e = .returned (.slice A' xs.length c') ∧ StrsAt w' A' xs ∧ xs.length ≤ 41 ∧ (∀ x ∈ xs, x.size ≤ 61) ∧ q' ≤ q + 20 ∧ Cur w' g l A c q' ∧ w.grownBy w' (some g)

/-- What the loop of texts keeps. -/
def TxRel (w : World) (g : Nat) (l : List UInt8) (A : Option Addr) (c q : Nat) (v n : Value) (wr : World) : Prop :=
  ∃ (xs : List ByteArray) (m q' : Nat), n = .int .i64 (m : Int) ∧ xs.length + m ≤ 3 ∧ (∀ x ∈ xs, x.size ≤ 61) ∧ q' + 2 * m ≤ q + 8 ∧ wr.ownsRow w.heap.size 9 1 v xs.length (S9 xs) ∧ Cur wr g l A c q' ∧ w.grownBy wr (some g)

set_option maxRecDepth 100000 in
set_option maxHeartbeats 2000000 in
theorem texts_any (g : Nat) (l : List UInt8) (A : Option Addr) (c q : Nat) (w : World) (h : Cur w g l A c q) (hl : l.length ≤ 1048576) (hq : q ≤ 700000000) :
    Calls Try.prog 57 #[.pointer (some ⟨g, 0, none⟩)] w (TxPost w g l A c q) := by
  have hgw := h.lt
  obtain ⟨i0, hi, hz0, hz1, hz2⟩ := info_parts info9
  have H := Lib.hid h
  clear h
  go_enter Try.func57, Try.ntmps57
  go_wp2_with fail
  refine (pick_any g l A c q 4 _ H.out hl (by omega) (by omega) (by omega)).mono ?_
  rintro e w1 ⟨x, q1, hx0, hx1, rfl, hq1, hC1, hG1⟩
  obtain ⟨k0, rfl⟩ := nat_of hx0
  go_wp2_with fail
  go_loopw [3, 4] (fun v n wr => TxRel w g l A c q v n wr) (fun _ n _ => (intOf n).toNat)
  case atStart => exact ⟨[], k0, q1, rfl, by simp; omega, by simp, by omega, World.ownsRow_nil _ _ _ _, hC1, hG1⟩
  case round =>
    clear hC1 hG1
    obtain ⟨xs, m, q', rfl, hm, hall, hq', hown, hC, hG⟩ := hrel
    have HALL := Lib.hid hall
    clear hall
    by_cases hm0 : 0 < m
    · go_wp2_with fail
      refine (any1_any g l A c q' _ hC hl (by omega)).mono ?_
      rintro e w2 ⟨t, q2, rfl, ht, hq2, hC2, hG2⟩
      have hown2 := own_kept hown hgw hG2
      have hG02 := grown_trans hG hG2
      have hsz2 := hG02.size
      clear hown hG2 hC
      go_wp2_with (at_builtin; refine wpList_append_own _ rfl (.tmp 11) (.tmp 14) 29 rfl w.heap.size 9 i0 (.string ⟨#[]⟩) 1 16 Try.underlying29 hi hz0 hz1 hz2 rfl (by decide) _ _ _ rfl (hown2.alloc _) ⟨w2.heap.size, 0, none⟩ 1 1 [.string t] rfl rfl (one_at _ _ _) (one_str _) (by unfold maxLen; omega) (by omega) (by simp; omega) ?_; intro v3 w3 hown3 hg3 _)
      have hb3 : Below w.heap.size w2 w3 := ((Below.refl _ w2).alloc hsz2 _).grown hg3 (by simp; omega) (fun k hk => (hown2.lt k hk).1)
      have hC3 := hC2.belowB hb3 hgw
      have hG3 := grown_app hG02 hown2 hg3
      have ho3 := own_snocS hown3
      have HALL3 := Lib.hid (show ∀ y ∈ xs ++ [t], y.size ≤ 61 by
        intro y hy
        rcases List.mem_append.1 hy with h1 | h1
        · exact HALL.out y h1
        · simp only [List.mem_singleton] at h1; subst h1; exact ht)
      clear hown3 hg3 hown2 hb3 hC2
      go_roundw
      case rel => exact ⟨xs ++ [t], m - 1, q2, by go_num, by simp; omega, HALL3.out, by omega, by simpa using ho3, hC3, hG3⟩
      case measure => simp [intOf]; omega
    · go_wp2_with fail
      refine (one_any g l A c q' 20 _ hC hl (by omega) (by omega) (by omega)).mono ?_
      rintro e w2 ⟨y, q2, rfl, hq2, hC2, hG2⟩
      have hown2 := own_kept hown hgw hG2
      have hG02 := grown_trans hG hG2
      clear hown hG2 hC
      cases y with
      | false =>
        obtain ⟨A', c', rfl, hst⟩ := own_strs hown2
        clear hown2
        go_wp2
        go_ret
        exact ⟨xs, A', c', q2, rfl, hst, by omega, HALL.out, by omega, hC2, hG02⟩
      | true =>
        clear hown2
        go_wp2_with fail
        refine (pick_any g l A c q2 2 _ hC2 hl (by omega) (by omega) (by omega)).mono ?_
        rintro e w3 ⟨z, q3, hz0', hz1', rfl, hq3, hC3, hG3⟩
        obtain ⟨k1, rfl⟩ := nat_of hz0'
        have hG03 := grown_trans hG02 hG3
        obtain ⟨n, hn⟩ : ∃ n, n = 40 + k1 := ⟨_, rfl⟩
        have hk1 : (k1 : Int) ≤ 1 := by omega
        have hn1 : n ≤ 41 := by omega
        have HN := Lib.hid hn
        clear hn hz1' hG3 hC2
        go_wp2_with (at_make; refine wpList_make_full _ rfl (.tmp 20) (.tmp 20) 29 rfl w3.heap.size 9 i0 _ 1 Try.underlying29 hi hz0 hz1 .i64 .i64 _ _ n rfl rfl (by have := HN.out; omega) (by have := HN.out; omega) (by rw [hz2]; omega) (by unfold maxLen; omega) (Nat.le_refl _) ?_; intro w4 hown4 hgr4)
        have hb4 : Below w3.heap.size w3 w4 := (Below.refl _ _).grown hgr4 (Nat.le_refl _) (by simp)
        rw [zeros9] at hown4
        obtain ⟨A', c', hv, hst⟩ := own_strs hown4
        have hC4 := hC3.below hb4
        have HV := Lib.hid hv
        clear hown4 hgr4 hv
        go_ret
        refine ⟨List.replicate n ⟨#[]⟩, some ⟨w3.heap.size, 0, none⟩, n, q3, by rw [List.length_replicate]; rfl, ?_, by rw [List.length_replicate]; exact hn1, ?_, by omega, hC4, grown_below hG03 hb4⟩
        · have := HV.out
          injection this with e1 e2 e3
          rw [e1]; exact hst
        · intro x hx
          rw [(List.mem_replicate.1 hx).2]
          decide
end Go.Proofs.Ytodfefaknclemaa
