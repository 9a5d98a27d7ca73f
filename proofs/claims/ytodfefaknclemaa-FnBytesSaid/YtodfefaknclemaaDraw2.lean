/-
  Contracts for the model's drawing of numbers, lists of texts and framed bytes, and for sameTexts, for the law FnBytes.
-/
import Derived.Test.YtodfefaknclemaaDraw
import Derived.Test.YtodfefaknclemaaSpecTexts
import Derived.Test.YtodfefaknclemaaTexts
namespace Go.Proofs.Ytodfefaknclemaa
open Go.RowKit
set_option linter.unusedVariables false

set_option maxRecDepth 100000 in
set_option maxHeartbeats 1000000 in
theorem among_any (g : Nat) (l : List UInt8) (A : Option Addr) (c q : Nat) (b n cap : Nat) (lo hi : Int) (xs : List Int) (w : World) (h : Cur w g l A c q) (hl : l.length ≤ 1048576) (hq : q ≤ 900000000)
    (hn : xs.length = n) (h1 : 1 ≤ n) (h2 : n ≤ 1000) (hbg : b ≠ g) (hc : ∀ k (h : k < xs.length), w.cell? ⟨b, k, none⟩ = some (.int .i64 xs[k])) (hm : ∀ k (h : k < xs.length), lo ≤ xs[k] ∧ xs[k] ≤ hi) :
    Calls Try.prog 49 #[.pointer (some ⟨g, 0, none⟩), .slice (some ⟨b, 0, none⟩) n cap] w (StepPost w g l A c q 2 lo hi) := by
  have H := Lib.hid h
  have HC := Lib.hid hc
  have HM := Lib.hid hm
  have HN := Lib.hid hn
  clear h hc hm hn
  go_enter Try.func49, Try.ntmps49
  go_wp2_with fail
  refine (pick_any g l A c q n _ H.out hl hq (by omega) (by omega)).mono ?_
  rintro e w1 ⟨x, q1, hx0, hx1, rfl, hq1, hC1, hG1⟩
  obtain ⟨k, rfl⟩ := Int.eq_ofNat_of_zero_le hx0
  have hk : k < xs.length := by rw [HN.out]; omega
  have hck := hG1.cell (HC.out k hk) (by simp; exact hbg)
  have hkn : (k : Int) < (n : Int) := by omega
  go_wp2
  go_ret
  exact ⟨_, q1, (HM.out k hk).1, (HM.out k hk).2, rfl, hq1, hC1, hG1⟩

/-- A new block of ints reads as the list. -/
theorem new_ints (w : World) (xs : List Int) : ∀ k (h : k < xs.length), (w.alloc (.cells (xs.map (Value.int .i64)).toArray 3)).cell? ⟨w.heap.size, k, none⟩ = some (.int .i64 xs[k]) := by
  intro k hk
  rw [cell_of_row _ w.heap.size k _ 3 (0, 0) (heap_alloc_new w _)]
  simp [List.getElem?_eq_getElem hk]

/-- The numbers that are drawn. -/
def nums10 : List Int := [0, 1, 127, 128, 300, 16383, 16384, 1000000000, 1000000001, -1]
def nums6 : List Int := [0, 1, 127, 128, 16384, 1000000000]
theorem nums10_all : ∀ x ∈ nums10, -1 ≤ x ∧ x ≤ 1000000001 := by decide
theorem nums6_all : ∀ x ∈ nums6, 0 ≤ x ∧ x ≤ 1000000000 := by decide

/-- Some number from lo to hi. -/
def IntPost (w : World) (lo hi : Int) (e : Ending) (w' : World) : Prop := ∃ x : Int, lo ≤ x ∧ x ≤ hi ∧ e = .returned (.int .i64 x) ∧ Below w.heap.size w w'

set_option maxRecDepth 100000 in
set_option maxHeartbeats 1000000 in
theorem drawNumBytes_any (A : Option Addr) (n c : Nat) (l : List UInt8) (w : World) (hn : l.length = n) (h : BytesAt w A l) (hl : n ≤ 1048576) :
    Calls Try.prog 15 #[.slice A n c] w (IntPost w (-1) 1000000001) := by
  subst hn
  have hC := cur_new w l A c h
  have hCa := hC.below ((Below.refl _ _).alloc (Nat.le_refl _) (.cells (nums10.map (Value.int .i64)).toArray 3))
  have hsz : (w.alloc (.cells #[.slice A l.length c, .int .i64 ((0 : Nat) : Int), .int .u64 0] 52)).heap.size = w.heap.size + 1 := by simp
  have hci := new_ints (w.alloc (.cells #[.slice A l.length c, .int .i64 ((0 : Nat) : Int), .int .u64 0] 52)) nums10
  rw [hsz] at hci
  have hA := among_any w.heap.size l A c 0 (w.heap.size + 1) 10 10 (-1) 1000000001 nums10 _ hCa hl (by omega) rfl (by omega) (by omega) (by omega) hci (fun k hk => nums10_all _ (List.getElem_mem hk))
  simp only [nums10, List.map_cons, List.map_nil] at hA
  have HA := Lib.hid hA
  clear h hC hCa hsz hci hA
  go_enter Try.func15, Try.ntmps15
  go_wp2_with fail
  refine HA.out.mono ?_
  rintro e w1 ⟨x, q1, hx0, hx1, rfl, hq1, hC1, hG1⟩
  go_wp2
  go_ret
  exact ⟨x, hx0, hx1, rfl, below_new (grown_trans (World.grownBy_alloc _ _ _) hG1)⟩

/-- Two texts. -/
theorem two_all (a b : UInt8) : ∀ x ∈ ([⟨#[]⟩, ⟨#[a]⟩] : List ByteArray), x.size ≤ 1 := by
  intro x hx
  simp only [List.mem_cons, List.not_mem_nil, or_false] at hx
  rcases hx with rfl | rfl
  · decide
  · exact Nat.le_refl _

set_option maxRecDepth 100000 in
set_option maxHeartbeats 1000000 in
theorem two_any (g : Nat) (l : List UInt8) (A : Option Addr) (c q : Nat) (a : UInt8) (w : World) (h : Cur w g l A c q) (hl : l.length ≤ 1048576) (hq : q ≤ 900000000) :
    Calls Try.prog 54 #[.pointer (some ⟨g, 0, none⟩), .slice (some ⟨w.heap.size, 0, none⟩) 2 2] (w.alloc (.cells #[.string ⟨#[]⟩, .string ⟨#[a]⟩] 9)) (StrPost w g l A c q 2 1) := by
  have hlt := h.lt
  have hC := h.below ((Below.refl _ _).alloc (Nat.le_refl _) (.cells (([⟨#[]⟩, ⟨#[a]⟩] : List ByteArray).map Value.string).toArray 9))
  have HO := of_any g l A c q w.heap.size 2 2 1 [⟨#[]⟩, ⟨#[a]⟩] _ hC hl hq rfl (by omega) (by omega) (by omega) (new_strs w _) (fun k hk => two_all a a _ (List.getElem_mem hk))
  refine HO.mono ?_
  intro e w1 hres
  exact StrPost.from hres (World.grownBy_alloc w _ (some g)) (Nat.le_refl _)

set_option maxRecDepth 100000 in
set_option maxHeartbeats 1000000 in
theorem drawTextBytes_any (A : Option Addr) (n c : Nat) (l : List UInt8) (w : World) (hn : l.length = n) (h : BytesAt w A l) (hl : n ≤ 1048576) :
    Calls Try.prog 18 #[.slice A n c] w (DrawnPost w 62) := by
  subst hn
  have HC := Lib.hid (cur_new w l A c h)
  clear h
  go_enter Try.func18, Try.ntmps18
  go_wp2_with fail
  refine (any1_any w.heap.size l A c 0 _ HC.out hl (by omega)).mono ?_
  rintro e w1 ⟨t, q1, rfl, ht, hq1, hC1, hG1⟩
  go_wp2_with fail
  refine (two_any w.heap.size l A c q1 120 _ hC1 hl (by omega)).mono ?_
  rintro e w2 ⟨s, q2, rfl, hs, hq2, hC2, hG2⟩
  go_wp2
  go_ret
  exact ⟨t ++ s, rfl, by rw [ByteArray.size_append]; omega, below_new (grown_trans hG1 hG2)⟩

/-- Framed bytes: some text of at most m + 4 bytes, and a place from -1 to 1. -/
def FramePost (w : World) (g m : Nat) (e : Ending) (w' : World) : Prop :=
  ∃ (t : ByteArray) (x : Int), e = .returned (.tuple #[.string t, .int .i64 x]) ∧ t.size ≤ m + 4 ∧ -1 ≤ x ∧ x ≤ 1 ∧ w.grownBy w' (some g)

set_option maxRecDepth 100000 in
set_option maxHeartbeats 2000000 in
theorem framed_tail (g : Nat) (l : List UInt8) (A : Option Addr) (c q : Nat) (t : ByteArray) (w : World) (h : Cur w g l A c q) (hl : l.length ≤ 1048576) (hq : q ≤ 700000000) (ht : t.size ≤ 5900) :
    Calls Try.prog 62 #[.pointer (some ⟨g, 0, none⟩), .string t] w (FramePost w g t.size) := by
  have H := Lib.hid h
  clear h
  go_enter Try.func62, Try.ntmps62
  go_wp2_with fail
  refine (one_any g l A c q 3 _ H.out hl (by omega) (by omega) (by omega)).mono ?_
  rintro e w1 ⟨x, q1, rfl, hq1, hC1, hG1⟩
  cases x with
  | true =>
    go_wp2_with fail
    refine (spoilt_any g l A c q1 t ⟨#[0, 1, 128, 255]⟩ _ hC1 hl (by omega) (by omega) (by decide) (by decide)).mono ?_
    rintro e w2 ⟨r, q2, rfl, hr, hq2, hC2, hG2⟩
    have hG02 := grown_trans hG1 hG2
    go_wp2_with fail
    refine (two_any g l A c q2 122 _ hC2 hl (by omega)).mono ?_
    rintro e w3 ⟨a, q3, rfl, ha, hq3, hC3, hG3⟩
    have hG03 := grown_trans hG02 hG3
    go_wp2_with fail
    refine (two_any g l A c q3 98 _ hC3 hl (by omega)).mono ?_
    rintro e w4 ⟨b, q4, rfl, hb, hq4, hC4, hG4⟩
    have hG04 := grown_trans hG03 hG4
    have hab : (a ++ r).size = a.size + r.size := ByteArray.size_append
    go_wp2_with fail
    refine (pick_any g l A c q4 2 _ hC4 hl (by omega) (by omega) (by omega)).mono ?_
    rintro e w5 ⟨y, q5, hy0, hy1, rfl, hq5, hC5, hG5⟩
    go_wp2_with fail
    refine (pick_any g l A c q5 20 _ hC5 hl (by omega) (by omega) (by omega)).mono ?_
    rintro e w6 ⟨z, q6, hz0, hz1, rfl, hq6, hC6, hG6⟩
    go_wp2
    go_ret2
    exact ⟨_, _, rfl, by rw [ByteArray.size_append, hab]; omega, by omega, by omega, grown_trans hG04 (grown_trans hG5 hG6)⟩
  | false =>
    go_wp2_with fail
    refine (two_any g l A c q1 122 _ hC1 hl (by omega)).mono ?_
    rintro e w3 ⟨a, q3, rfl, ha, hq3, hC3, hG3⟩
    have hG03 := grown_trans hG1 hG3
    go_wp2_with fail
    refine (two_any g l A c q3 98 _ hC3 hl (by omega)).mono ?_
    rintro e w4 ⟨b, q4, rfl, hb, hq4, hC4, hG4⟩
    have hG04 := grown_trans hG03 hG4
    have hab : (a ++ t).size = a.size + t.size := ByteArray.size_append
    go_wp2_with fail
    refine (pick_any g l A c q4 2 _ hC4 hl (by omega) (by omega) (by omega)).mono ?_
    rintro e w5 ⟨y, q5, hy0, hy1, rfl, hq5, hC5, hG5⟩
    go_wp2_with fail
    refine (pick_any g l A c q5 20 _ hC5 hl (by omega) (by omega) (by omega)).mono ?_
    rintro e w6 ⟨z, q6, hz0, hz1, rfl, hq6, hC6, hG6⟩
    go_wp2
    go_ret2
    exact ⟨_, _, rfl, by rw [ByteArray.size_append, hab]; omega, by omega, by omega, grown_trans hG04 (grown_trans hG5 hG6)⟩
end Go.Proofs.Ytodfefaknclemaa
