/-
  Contract for the model's drawing of a list of spans.
-/
import Derived.Test.YtmdejfdkdgpffaaDraw2
import Derived.Test.YtmdejfdkdgpffaaLists
namespace Go.Proofs.Ytmdejfdkdgpffaa
open Go.RowKit
set_option linter.unusedVariables false

/-- Spans as cells. -/
def S29 : List (Int × Int) → List Value
  | [] => []
  | s :: t => .int .i64 s.1 :: .int .i64 s.2 :: S29 t
theorem S29_len (l : List (Int × Int)) : (S29 l).length = l.length * 2 := by
  induction l with
  | nil => rfl
  | cons s t ih => simp only [S29, List.length_cons, ih]; omega
theorem S29_app (a b : List (Int × Int)) : S29 (a ++ b) = S29 a ++ S29 b := by
  induction a with
  | nil => rfl
  | cons s t ih => simp only [List.cons_append, S29, ih]
theorem S29_at (l : List (Int × Int)) (k : Nat) (h : k < l.length) : (S29 l)[k * 2]? = some (.int .i64 l[k].1) ∧ (S29 l)[k * 2 + 1]? = some (.int .i64 l[k].2) := by
  induction l generalizing k with
  | nil => simp at h
  | cons s t ih =>
    cases k with
    | zero => exact ⟨rfl, rfl⟩
    | succ k =>
      have := ih k (by simpa using h)
      rw [show (k + 1) * 2 = k * 2 + 2 by omega, show k * 2 + 2 + 1 = k * 2 + 1 + 2 by omega]
      simpa [S29] using this

theorem own_spans {w : World} {base n : Nat} {v : Value} {l : List (Int × Int)} (h : w.ownsRow base 29 2 v n (S29 l)) : ∃ A c, v = .slice A n c ∧ SpansAt w A l := by
  have hl : l.length = n := by have := h.1; rw [S29_len] at this; omega
  rcases Nat.eq_zero_or_pos n with h0 | h0
  · subst h0
    have : l = [] := List.eq_nil_of_length_eq_zero hl
    subst this
    rcases h.2 with ⟨rfl, _⟩ | ⟨g, cap, cur, rfl, _⟩
    · exact ⟨_, _, rfl, .inl rfl⟩
    · exact ⟨_, _, rfl, .inl rfl⟩
  · obtain ⟨g, cap, rfl, hlt⟩ : ∃ g cap, v = .slice (some ⟨g, 0, none⟩) n cap ∧ g < w.heap.size := by
      rcases h.2 with ⟨_, h1⟩ | ⟨g, cap, cur, hv, _, hh, _⟩
      · omega
      · exact ⟨g, cap, hv, lt_blk hh⟩
    refine ⟨_, _, rfl, .inr ⟨g, 0, rfl, hlt, fun k hk => ?_⟩⟩
    have hadd : ∀ j, (⟨g, 0, none⟩ : Addr).add j = ⟨g, j, none⟩ := fun j => by unfold Addr.add; split <;> simp_all
    have h1 := h.cells (g := g) rfl (k * 2) _ (S29_at l k hk).1
    have h2 := h.cells (g := g) rfl (k * 2 + 1) _ (S29_at l k hk).2
    rw [hadd] at h1 h2
    rw [Nat.zero_add]
    exact ⟨h1, h2⟩
theorem own_snocS {w : World} {base k : Nat} {v : Value} {l : List (Int × Int)} {x y : Int} (h : w.ownsRow base 29 2 v (k + 1) (S29 l ++ [.int .i64 x, .int .i64 y])) : w.ownsRow base 29 2 v (k + 1) (S29 (l ++ [(x, y)])) := by
  rw [S29_app]
  exact h
theorem two_one (x y : Int) : ∀ u ∈ [Value.int .i64 x, Value.int .i64 y], u.oneCell' = true := by
  intro u hu; simp at hu; rcases hu with rfl | rfl <;> rfl
theorem two_at (w : World) (x y : Value) (t : TypeId) : ∀ j u, [x, y][j]? = some u → (w.alloc (.cells #[x, y] t)).cell? ((⟨w.heap.size, 0, none⟩ : Addr).add j) = some u := by
  intro j u hj
  match j, hj with
  | 0, hj => simp at hj; subst hj; simp [Addr.add]
  | 1, hj => simp at hj; subst hj; simp [Addr.add]

section
variable {w w1 w2 : World} {g base n : Nat} {v : Value} {xs : List Value} {e : TypeId} {o : Obj} {size : Nat}
theorem own_kept (h : w1.ownsRow base e size v n xs) (hb : g < base) (hg : w1.grownBy w2 (some g)) : w2.ownsRow base e size v n xs := by
  refine h.kept hg ?_
  right
  intro hv
  have := (h.lt g hv).1
  omega
theorem grown_app (hG : w.grownBy w1 (some g)) (h : w1.ownsRow w.heap.size e size v n xs) (hg : (w1.alloc o).grownBy w2 v.ownBlock) : w.grownBy w2 (some g) := by
  refine ⟨hg.os.trans hG.os, hg.tape.trans hG.tape, hg.output.trans hG.output, ?_, fun k hk hr => ?_⟩
  · have h1 := hG.size
    have h2 := hg.size
    simp at h2
    omega
  · have h1 := hG.size
    have hne : some k ≠ v.ownBlock := fun e => by have := (h.lt k e.symm).1; omega
    rw [hg.block k (by simp; omega) hne, Below.heap_alloc w1 o k (by omega), hG.block k hk hr]
end

/-- Some list of at most four spans. -/
def SpansPost (w : World) (e : Ending) (w' : World) : Prop :=
  ∃ (xs : List (Int × Int)) (A' : Option Addr) (c' : Nat), e = .returned (.slice A' xs.length c') ∧ SpansAt w' A' xs ∧ xs.length ≤ 4 ∧ Below w.heap.size w w'

/-- What the loop of spans keeps. -/
def SpRel (W : World) (g : Nat) (l : List UInt8) (A : Option Addr) (c : Nat) (v n : Value) (wr : World) : Prop :=
  ∃ (xs : List (Int × Int)) (m q : Nat), n = .int .i64 (m : Int) ∧ xs.length + m ≤ 4 ∧ q + 6 * m ≤ 100 ∧ wr.ownsRow W.heap.size 29 2 v xs.length (S29 xs) ∧ Cur wr g l A c q ∧ W.grownBy wr (some g)

set_option maxRecDepth 100000 in
set_option maxHeartbeats 2000000 in
theorem drawMeetSpans_any (A : Option Addr) (n c : Nat) (l : List UInt8) (w : World) (hn : l.length = n) (h : BytesAt w A l) (hl : n ≤ 1048576) :
    Calls Try.prog 30 #[.slice A n c] w (SpansPost w) := by
  obtain ⟨i0, hi, hz0, hz1, hz2⟩ := info_parts info29
  have hC := cur_new' w w.heap.size l A c n h rfl hn
  have HC := Lib.hid hC
  have hl' : l.length ≤ 1048576 := by omega
  have HB := Lib.hid (below1 w (curBlk A n c))
  obtain ⟨W, hW⟩ : ∃ W, W = w.alloc (curBlk A n c) := ⟨_, rfl⟩
  have hgw : w.heap.size < W.heap.size := by rw [hW]; simp
  have HW := Lib.hid hW
  clear h hn hC hW
  go_enter Try.func30, Try.ntmps30
  go_wp2_with fail
  refine (pick_any w.heap.size l A c 0 5 _ HC.out hl' (by omega) (by omega) (by omega)).mono ?_
  rintro e w1 ⟨x, q1, hx0, hx1, rfl, hq1, hC1, hG1⟩
  obtain ⟨k0, rfl⟩ := nat_of hx0
  have hG1' : W.grownBy w1 (some w.heap.size) := by rw [HW.out]; exact hG1
  clear hG1
  go_wp2_with fail
  go_loopw [4, 5] (fun v n wr => SpRel W w.heap.size l A c v n wr) (fun _ n _ => (intOf n).toNat)
  case atStart => exact ⟨[], k0, q1, rfl, by simp; omega, by omega, World.ownsRow_nil _ _ _ _, hC1, hG1'⟩
  case round =>
    clear hC1 hG1'
    obtain ⟨xs, m, q', rfl, hm, hq', hown, hC, hG⟩ := hrel
    by_cases hm0 : 0 < m
    · go_wp2_with fail
      refine (span_any w.heap.size l A c q' _ hC hl' (by omega)).mono ?_
      rintro e w2 ⟨a, b, q2, ha0, ha1, hb0, hb1, rfl, hq2, hC2, hG2⟩
      have hown2 := own_kept hown hgw hG2
      have hG02 := grown_trans hG hG2
      have hsz2 := hG02.size
      clear hown hG2 hC
      go_wp2_with (at_builtin; refine wpList_append_own _ rfl (.tmp 15) (.tmp 18) 43 rfl W.heap.size 29 i0 (.agg #[.int .i64 0, .int .i64 0]) 2 16 Try.underlying43 hi hz0 hz1 hz2 rfl (by decide) _ _ _ rfl (hown2.alloc _) ⟨w2.heap.size, 0, none⟩ 1 1 [.int .i64 a, .int .i64 b] rfl rfl (two_at _ _ _ _) (two_one _ _) (by unfold maxLen; omega) (by omega) (by simp; omega) ?_; intro v3 w3 hown3 hg3 _)
      have hb3 : Below W.heap.size w2 w3 := ((Below.refl _ w2).alloc hsz2 _).grown hg3 (by simp; omega) (fun k hk => (hown2.lt k hk).1)
      have hC3 := hC2.belowB hb3 hgw
      have hG3 := grown_app hG02 hown2 hg3
      have ho3 := own_snocS hown3
      clear hown3 hg3 hown2 hb3 hC2
      go_wp2
      go_roundw
      case rel => exact ⟨xs ++ [(a, b)], m - 1, q2, by go_num, by simp; omega, by omega, by simpa using ho3, hC3, hG3⟩
      case measure => simp [intOf]; omega
    · obtain ⟨A', c', rfl, hst⟩ := own_spans hown
      clear hown
      go_wp2
      go_ret
      exact ⟨xs, A', c', rfl, hst, by omega, HB.out.trans (by have := below_of_grown hG (Nat.le_refl w.heap.size) (by omega); rwa [HW.out] at this)⟩
end Go.Proofs.Ytmdejfdkdgpffaa
