/-
  Contracts for the model's drawing of a text for a frame.
-/
import Derived.Test.YtcjejbnogghkcaaC1
import Derived.Test.YtcjejbnogghkcaaOf
import Derived.Laws.OwnMore
namespace Go.Proofs.Ytcjejbnogghkcaa.Dk
open Go.RowKit
set_option linter.unusedVariables false
set_option linter.unusedSimpArgs false

/-- The texts of any1. -/
def anyTexts : List ByteArray := [⟨#[]⟩, ⟨#[97]⟩, ⟨#[114, 111, 119]⟩, ⟨#[97, 32, 108, 111, 110, 103, 32, 116, 101, 120, 116, 32, 111, 102, 32, 115, 111, 109, 101, 32, 119, 111, 114, 100, 115]⟩, ⟨#[0, 255]⟩, ⟨#[48, 49, 50, 51, 52, 53, 54, 55, 56, 57, 48, 49, 50, 51, 52, 53, 54, 55, 56, 57, 48, 49, 50, 51, 52, 53, 54, 55, 56, 57, 48, 49, 50, 51, 52, 53, 54, 55, 56, 57, 48, 49, 50, 51, 52, 53, 54, 55, 56, 57, 48, 49, 50, 51, 52, 53, 54, 55, 56, 57, 48]⟩]
theorem anyTexts_size : ∀ k (h : k < anyTexts.length), anyTexts[k].size ≤ 61 := by decide
set_option maxRecDepth 100000 in
set_option maxHeartbeats 1000000 in
theorem any1_any (g : Nat) (l : List UInt8) (A : Option Addr) (c q : Nat) (w : World) (h : Cur w g l A c q) (hl : l.length ≤ 1048576) (hq : q ≤ 900000000) :
    Calls Try.prog 66 #[.pointer (some ⟨g, 0, none⟩)] w (StrPost w g l A c q 2 61) := by
  have hlt := h.lt
  have hC := h.below ((Below.refl _ _).alloc (Nat.le_refl _) (.cells (anyTexts.map Value.string).toArray 9))
  have HO := Lib.hid (of_any g l A c q w.heap.size 6 6 61 anyTexts _ hC hl hq rfl (by omega) (by omega) (by omega) (new_strs w anyTexts 9) anyTexts_size)
  clear h hC
  go_enter Try.func66, Try.ntmps66
  go_wp2_with fail
  refine HO.out.mono ?_
  intro e w1 hres
  obtain ⟨t, q', rfl, hm, hq', hC, hG⟩ := hres
  go_wp2
  go_ret
  exact ⟨t, q', rfl, hm, hq', hC, grown_trans (World.grownBy_alloc w _ (some g)) hG⟩

theorem zeros8 (n : Nat) : (madeCells (Value.int IntKind.u8 0).cells (n * 1)).toList = C1.B8 (List.replicate n 0) := by
  have hz : (Value.int IntKind.u8 0).cells = #[.int .u8 0] := rfl
  rw [Nat.mul_one, hz]
  apply List.ext_getElem
  · simp [C1.B8, size_madeCells]
  · intro i h1 h2
    simp [madeCells, C1.B8, Nat.mod_one]

def nums5 : List Int := [127, 128, 699, 700, 701]
theorem nums5_all : ∀ x ∈ nums5, 0 ≤ x ∧ x ≤ 701 := by decide
theorem StrPost.from {w w1 w' : World} {g : Nat} {l : List UInt8} {A : Option Addr} {c q q1 d d1 m m1 : Nat} {e : Ending} (h : StrPost w1 g l A c q1 d m e w') (hg : w.grownBy w1 (some g)) (hq : q1 + d ≤ q + d1) (hm : m ≤ m1) : StrPost w g l A c q d1 m1 e w' := by
  obtain ⟨t, q', he, hm', hq', hC, hG⟩ := h
  exact ⟨t, q', he, by omega, by omega, hC, grown_trans hg hG⟩

set_option maxRecDepth 100000 in
set_option maxHeartbeats 1000000 in
theorem l6Text_any (g : Nat) (l : List UInt8) (A : Option Addr) (c q : Nat) (w : World) (h : Cur w g l A c q) (hl : l.length ≤ 1048576) (hq : q ≤ 800000000) :
    Calls Try.prog 47 #[.pointer (some ⟨g, 0, none⟩)] w (StrPost w g l A c q 4 701) := by
  have H := Lib.hid h
  obtain ⟨i0, hi, hz0, hz1, hz2⟩ := info_parts C1.info5
  clear h
  go_enter Try.func47, Try.ntmps47
  go_wp2_with fail
  refine (one_any g l A c q 12 _ H.out hl (by omega) (by omega) (by omega)).mono ?_
  rintro e w1 ⟨x, q1, rfl, hq1, hC1, hG1⟩
  cases x with
  | true =>
    have hlt := hC1.lt
    have hC2 := hC1.below ((Below.refl _ _).alloc (Nat.le_refl _) (.cells (nums5.map (Value.int .i64)).toArray 3))
    have HM := Lib.hid (among_any g l A c q1 w1.heap.size 5 5 nums5 _ hC2 hl (by omega) rfl (by omega) (by omega) (by omega) (new_ints w1 nums5 3))
    have HG1 := Lib.hid (grown_trans hG1 (World.grownBy_alloc w1 (.cells (nums5.map (Value.int .i64)).toArray 3) (some g)))
    clear hC1 hC2 hG1
    go_wp2_with fail
    refine HM.out.mono ?_
    rintro e w2 ⟨y, q2, hy, rfl, hq2, hC3, hG3⟩
    obtain ⟨hy0, hy1⟩ := nums5_all y hy
    obtain ⟨n, rfl⟩ := nat_of hy0
    have hn : n ≤ 701 := by omega
    have HC3 := Lib.hid hC3
    have HG3 := Lib.hid (grown_trans HG1.out hG3)
    clear hy hC3 hG3
    go_wp2_with (at_make; refine wpList_make_full _ rfl (.tmp 7) (.tmp 7) 22 rfl w2.heap.size 5 i0 _ 1 Try.underlying22 hi hz0 hz1 .i64 .i64 _ _ n rfl rfl rfl rfl (by rw [hz2]; omega) (by unfold maxLen; omega) (Nat.le_refl _) ?_; intro w3 hown hgr; rw [zeros8] at hown; have hcv := C1.conv_back hown; have hb3 : Below w2.heap.size w2 w3 := (Below.refl _ _).grown hgr (Nat.le_refl _) (by simp))
    have HE := Lib.hid (show StrPost w g l A c q 4 701 (.returned (.string ⟨(List.replicate n 0).toArray⟩)) w3 from ⟨_, q2, rfl, by show (List.replicate n (0 : UInt8)).toArray.size ≤ 701; simp; exact hn, by omega, HC3.out.below hb3, grown_below HG3.out hb3⟩)
    clear hcv hown hgr hb3
    go_wp2
    go_ret
    exact HE.out
  | false =>
    have HA := Lib.hid (any1_any g l A c q1 w1 hC1 hl (by omega))
    have HG1 := Lib.hid hG1
    clear hC1 hG1
    go_wp2_with fail
    refine HA.out.mono ?_
    intro e w2 hres
    obtain ⟨t, q2, rfl, hm, hq2, hC2, hG2⟩ := hres
    go_wp2
    go_ret
    exact ⟨t, q2, rfl, by omega, by omega, hC2, grown_trans HG1.out hG2⟩

theorem drawFrame_any (A : Option Addr) (n c : Nat) (l : List UInt8) (w : World) (hn : l.length = n) (h : BytesAt w A l) (hl : n ≤ 1048576) :
    Calls Try.prog 17 #[.slice A n c] w fun e w' => ∃ t : ByteArray, e = .returned (.string t) ∧ t.size ≤ 701 ∧ Below w.heap.size w w' := by
  subst hn
  have HT := Lib.hid (l6Text_any w.heap.size l A c 0 _ (cur_new w l A c h) hl (by omega))
  have hb := (Below.refl w.heap.size w).alloc (Nat.le_refl _) (.cells #[.slice A l.length c, .int .i64 ((0 : Nat) : Int), .int .u64 0] 61)
  have HB := Lib.hid hb
  clear h hb
  go_enter Try.func17, Try.ntmps17
  go_wp2_with fail
  refine HT.out.mono ?_
  intro e w1 hres
  obtain ⟨t, q2, rfl, hm, hq2, hC2, hG2⟩ := hres
  go_wp2
  go_ret
  exact ⟨t, rfl, hm, HB.out.trans (below_of_grown hG2 (Nat.le_refl _) HB.out.size)⟩
end Go.Proofs.Ytcjejbnogghkcaa.Dk
