/-
  Contracts for the model's drawing cursor (l1Cur): a byte, a number below n, a yes or no, a choice among numbers; a new cursor. What calls over a cursor leave of the world.
-/
import Derived.Test.YtpppgihoekfmoaaRows
import Derived.WalkKit
import Derived.ProofKit
import Derived.Below
import Derived.Lib.Hide
import Derived.OwnWalk
import Derived.Outline
import Derived.Deep.Draws
import Derived.Deep.QuietTactic
import Derived.BigQuiet
import Derived.Deep.RegionHeld3
import Derived.Laws.Pointers
import Derived.Laws.ResultCell
import Derived.WalkSpells
import Derived.WalkLawsBesides
import Derived.Laws.BitsAllLaws
import Derived.Laws.IdiomStrings
import Derived.Laws.BytesArg
namespace Go.Proofs.Ytpppgihoekfmoaa
open Go.RowKit
set_option linter.unusedVariables false

/-- A slice of bytes that reads as the list l: nil and empty, or cells at an address. -/
def BytesAt (w : World) (A : Option Addr) (l : List UInt8) : Prop :=
  l = [] ∨ ∃ b off, A = some ⟨b, off, none⟩ ∧ b < w.heap.size ∧ ∀ k (h : k < l.length), w.cell? ⟨b, off + k, none⟩ = some (.int .u8 (l[k].toNat : Int))
theorem BytesAt.below {w w' : World} {A : Option Addr} {l : List UInt8} (h : BytesAt w A l) (hb : Below w.heap.size w w') : BytesAt w' A l := by
  rcases h with h | ⟨b, off, hA, hlt, hc⟩
  · exact .inl h
  · exact .inr ⟨b, off, hA, Nat.lt_of_lt_of_le hlt hb.size, fun k hk => (hb.cell (p := ⟨b, off + k, none⟩) hlt).trans (hc k hk)⟩
theorem ret_int {k : IntKind} {a b : Int} (h : a = b) : Ending.returned (.int k a) = .returned (.int k b) := by rw [h]
theorem val_int {k : IntKind} {a b : Int} (h : a = b) : Value.int k a = .int k b := by rw [h]
/-- A number that a walk has drawn, as a natural number. -/
theorem nat_of {x : Int} (h : 0 ≤ x) : ∃ k : Nat, x = (k : Int) := Int.eq_ofNat_of_zero_le h

section
variable {w w' w1 w2 : World} {g : Nat}
theorem grown_refl (w : World) (row : Option Nat) : w.grownBy w row := ⟨rfl, rfl, rfl, Nat.le_refl _, fun _ _ _ => rfl⟩
theorem grown_trans {row : Option Nat} (h : w.grownBy w1 row) (k : w1.grownBy w2 row) : w.grownBy w2 row :=
  ⟨k.os.trans h.os, k.tape.trans h.tape, k.output.trans h.output, Nat.le_trans h.size k.size, fun i hi hr => (k.block i (Nat.lt_of_lt_of_le hi h.size) hr).trans (h.block i hi hr)⟩
theorem grown_drewN {row : Option Nat} (h : w.grownBy w1 row) (n : Nat) : w.grownBy (w1.drewN n) row := ⟨h.os, h.tape, h.output, h.size, h.block⟩
theorem grown_set {row : Option Nat} (h : w.grownBy w1 row) {p : Addr} (hp : some p.block = row) (u : Value) : w.grownBy (w1.setCell p u) row :=
  grown_trans h ⟨rfl, rfl, rfl, by simp [World.setCell], fun k hk hr => Below.heap_setCell _ _ _ _ (fun e => hr (by rw [e]; exact hp))⟩
theorem grown_below {row : Option Nat} (h : w.grownBy w1 row) (hb : Below w1.heap.size w1 w2) : w.grownBy w2 row :=
  grown_trans h ⟨hb.os, hb.tape, hb.output, hb.size, fun k hk _ => hb.block k hk⟩
theorem below_of_grown {B : Nat} (h : w.grownBy w1 (some g)) (hB : B ≤ g) (hw : B ≤ w.heap.size) : Below B w w1 :=
  ⟨h.os, h.tape, h.output, h.size, fun k hk => h.block k (by omega) (by simp; omega)⟩
end

/-- x is a number of the kind uint64. -/
def U64 (x : Int) : Prop := 0 ≤ x ∧ x < 18446744073709551616
/-- The bytes l lie in a block below g. -/
def BytesBelow (w : World) (A : Option Addr) (l : List UInt8) (g : Nat) : Prop :=
  l = [] ∨ ∃ b off, A = some ⟨b, off, none⟩ ∧ b < g ∧ ∀ k (h : k < l.length), w.cell? ⟨b, off + k, none⟩ = some (.int .u8 (l[k].toNat : Int))
/-- Block g is a cursor over the bytes l, at place q. -/
def Cur (w : World) (g : Nat) (l : List UInt8) (A : Option Addr) (c q : Nat) : Prop :=
  (∃ sd : Int, U64 sd ∧ w.heap[g]? = some (.cells #[.slice A l.length c, .int .i64 (q : Int), .int .u64 sd] 71 (0, 0))) ∧ BytesBelow w A l g

section
variable {w w' : World} {g c q : Nat} {l : List UInt8} {A : Option Addr}
theorem Cur.lt (h : Cur w g l A c q) : g < w.heap.size := by
  obtain ⟨⟨_, _, h⟩, _⟩ := h
  exact (Array.getElem?_eq_some_iff.1 h).1
theorem BytesBelow.keep (h : BytesBelow w A l g) (hk : ∀ p : Addr, p.block < g → w'.cell? p = w.cell? p) : BytesBelow w' A l g := by
  rcases h with h | ⟨b, off, hA, hb, hc⟩
  · exact .inl h
  · exact .inr ⟨b, off, hA, hb, fun k hk' => (hk ⟨b, off + k, none⟩ hb).trans (hc k hk')⟩
theorem Cur.below (h : Cur w g l A c q) (hb : Below w.heap.size w w') : Cur w' g l A c q := by
  have hlt := h.lt
  obtain ⟨⟨sd, hu, hh⟩, hbb⟩ := h
  exact ⟨⟨sd, hu, (hb.block g hlt).trans hh⟩, hbb.keep fun p hp => hb.cell (by omega)⟩
theorem Cur.drewN (h : Cur w g l A c q) (n : Nat) : Cur (w.drewN n) g l A c q := h
end

theorem u64_wrap (x : Int) : U64 (IntKind.u64.wrap x) := by
  have h : IntKind.u64.wrap x = x % 18446744073709551616 := by simp [IntKind.wrap, IntKind.signed, IntKind.bits]
  rw [h]
  unfold U64
  omega
/-- The cursor behind one step: its place and its seed are written. -/
theorem Cur.stepped {w : World} {g c q : Nat} {l : List UInt8} {A : Option Addr} (h : Cur w g l A c q) (m1 m2 : Nat) (sd : Int) (hs : U64 sd) :
    Cur ((((w.drewN m1).setCell ⟨g, 1, none⟩ (.int .i64 ((q + 1 : Nat) : Int))).setCell ⟨g, 2, none⟩ (.int .u64 sd)).drewN m2) g l A c (q + 1) := by
  obtain ⟨⟨sd0, hu, hh⟩, hbb⟩ := h
  refine ⟨⟨sd, hs, ?_⟩, hbb.keep fun p hp => ?_⟩
  · show (((w.drewN m1).setCell ⟨g, 1, none⟩ (.int .i64 ((q + 1 : Nat) : Int))).setCell ⟨g, 2, none⟩ (.int .u64 sd)).heap[g]? = _
    simp [World.setCell, Array.getElem?_modify, hh]
  · show (((w.drewN m1).setCell ⟨g, 1, none⟩ _).setCell ⟨g, 2, none⟩ _).cell? p = _
    rw [World.cell?_setCell_other _ _ _ _ (fun e => by subst e; exact absurd hp (Nat.lt_irrefl _)), World.cell?_setCell_other _ _ _ _ (fun e => by subst e; exact absurd hp (Nat.lt_irrefl _))]
    rfl
theorem stepped_grown (w : World) (g m1 m2 : Nat) (u v : Value) : w.grownBy ((((w.drewN m1).setCell ⟨g, 1, none⟩ u).setCell ⟨g, 2, none⟩ v).drewN m2) (some g) :=
  grown_drewN (grown_set (p := ⟨g, 2, none⟩) (grown_set (p := ⟨g, 1, none⟩) (grown_drewN (grown_refl w (some g)) m1) rfl u) rfl v) m2
theorem and255 (x : Int) (h : U64 x) : 0 ≤ wrap64 (bits .and .u64 (x / 1099511627776) 255) ∧ wrap64 (bits .and .u64 (x / 1099511627776) 255) ≤ 255 := by
  unfold U64 at h
  rw [u64_and (x / 1099511627776) 255 (by omega) (by omega) (by omega) (by omega)]
  have h1 : (x / 1099511627776).toNat &&& (255 : Int).toNat ≤ 255 := Nat.and_le_right
  obtain ⟨n, hn⟩ : ∃ n, n = (x / 1099511627776).toNat &&& (255 : Int).toNat := ⟨_, rfl⟩
  rw [← hn] at h1 ⊢
  rw [IntWalk.wrap64_in (n : Int) ⟨by omega, by omega⟩]
  omega

/-- A step of the cursor: some number from lo to hi; the cursor has gone on by at most d. -/
def StepPost (w : World) (g : Nat) (l : List UInt8) (A : Option Addr) (c q d : Nat) (lo hi : Int) (e : Ending) (w' : World) : Prop :=
  ∃ (x : Int) (q' : Nat), lo ≤ x ∧ x ≤ hi ∧ e = .returned (.int .i64 x) ∧ q' ≤ q + d ∧ Cur w' g l A c q' ∧ w.grownBy w' (some g)

set_option maxRecDepth 100000 in
set_option maxHeartbeats 1000000 in
theorem next_in (g : Nat) (l : List UInt8) (A : Option Addr) (c q : Nat) (w : World) (h : Cur w g l A c q) (hl : l.length ≤ 1048576) (hq : q < l.length) :
    Calls Try.prog 58 #[.pointer (some ⟨g, 0, none⟩)] w (StepPost w g l A c q 1 0 255) := by
  have HS := Lib.hid (fun m1 m2 sd => h.stepped m1 m2 sd)
  obtain ⟨⟨sd, hu, hh⟩, hbb⟩ := h
  have c0 : w.cell? ⟨g, 0, none⟩ = some (.slice A l.length c) := cell_of_row w g 0 _ 71 (0, 0) hh
  have c1 : w.cell? ⟨g, 1, none⟩ = some (.int .i64 (q : Int)) := cell_of_row w g 1 _ 71 (0, 0) hh
  have c2 : w.cell? ⟨g, 2, none⟩ = some (.int .u64 sd) := cell_of_row w g 2 _ 71 (0, 0) hh
  have f1 : w.frozen? ⟨g, 1, none⟩ = false := by simp [World.frozen?, hh]
  have f2 : w.frozen? ⟨g, 2, none⟩ = false := by simp [World.frozen?, hh]
  rcases hbb with rfl | ⟨b, off, rfl, hbg, hc⟩
  · simp at hq
  · have hck := hc q hq
    have hne : b ≠ g := by omega
    have h8 : (l[q].toNat : Int) < 256 := by have := l[q].toNat_lt; omega
    obtain ⟨n, hn⟩ : ∃ n, n = l.length := ⟨_, rfl⟩
    rw [← hn] at c0 hl
    have hqn : q < n := by omega
    obtain ⟨x, hx⟩ : ∃ x : Int, x = (l[q].toNat : Int) := ⟨_, rfl⟩
    rw [← hx] at hck h8
    have hx0 : 0 ≤ x := by omega
    have hq0 : (0 : Int) ≤ (q : Int) := by omega
    have hq1 : (q : Int) < (n : Int) := by omega
    clear hh hc hx hn hq
    go_enter Try.func58, Try.ntmps58
    go_wp2_with fail
    go_quiet (fail)
    go_wp2_with fail
    go_quiet (fail)
    go_wp2_with fail
    go_quiet (fail)
    go_wp2
    go_ret
    exact ⟨x, q + 1, hx0, by omega, rfl, Nat.le_refl _, HS.out _ _ _ (u64_wrap _), stepped_grown _ _ _ _ _ _⟩

set_option maxRecDepth 100000 in
set_option maxHeartbeats 1000000 in
theorem next_out (g : Nat) (l : List UInt8) (A : Option Addr) (c q : Nat) (w : World) (h : Cur w g l A c q) (hl : l.length ≤ 1048576) (hq : l.length ≤ q) (hq2 : q ≤ 1000000000) :
    Calls Try.prog 58 #[.pointer (some ⟨g, 0, none⟩)] w (StepPost w g l A c q 1 0 255) := by
  have HS := Lib.hid (fun m1 m2 sd => h.stepped m1 m2 sd)
  obtain ⟨⟨sd, hu, hh⟩, hbb⟩ := h
  have c0 : w.cell? ⟨g, 0, none⟩ = some (.slice A l.length c) := cell_of_row w g 0 _ 71 (0, 0) hh
  have c1 : w.cell? ⟨g, 1, none⟩ = some (.int .i64 (q : Int)) := cell_of_row w g 1 _ 71 (0, 0) hh
  have c2 : w.cell? ⟨g, 2, none⟩ = some (.int .u64 sd) := cell_of_row w g 2 _ 71 (0, 0) hh
  have f1 : w.frozen? ⟨g, 1, none⟩ = false := by simp [World.frozen?, hh]
  have f2 : w.frozen? ⟨g, 2, none⟩ = false := by simp [World.frozen?, hh]
  obtain ⟨n, hn⟩ : ∃ n, n = l.length := ⟨_, rfl⟩
  rw [← hn] at c0 hl hq
  clear hh hbb hn
  go_enter Try.func58, Try.ntmps58
  go_wp2_with fail
  go_quiet (fail)
  go_wp2_with fail
  go_quiet (fail)
  go_wp2
  go_ret
  exact ⟨_, q + 1, (and255 _ (u64_wrap _)).1, (and255 _ (u64_wrap _)).2, rfl, Nat.le_refl _, HS.out _ _ _ (u64_wrap _), stepped_grown _ _ _ _ _ _⟩

theorem next_any (g : Nat) (l : List UInt8) (A : Option Addr) (c q : Nat) (w : World) (h : Cur w g l A c q) (hl : l.length ≤ 1048576) (hq2 : q ≤ 1000000000) :
    Calls Try.prog 58 #[.pointer (some ⟨g, 0, none⟩)] w (StepPost w g l A c q 1 0 255) := by
  rcases Nat.lt_or_ge q l.length with h1 | h1
  · exact next_in g l A c q w h hl h1
  · exact next_out g l A c q w h hl h1 hq2

theorem mod_pick (x n : Int) (h0 : 0 ≤ x) (hn : 1 < n) : 0 ≤ x % n ∧ x % n ≤ n - 1 := by
  have h1 := Int.emod_nonneg x (show n ≠ 0 by omega)
  have h2 := Int.emod_lt_of_pos x (show 0 < n by omega)
  omega

set_option maxRecDepth 100000 in
set_option maxHeartbeats 1000000 in
theorem pick_any (g : Nat) (l : List UInt8) (A : Option Addr) (c q : Nat) (n : Int) (w : World) (h : Cur w g l A c q) (hl : l.length ≤ 1048576) (hq : q ≤ 900000000) (h1 : 1 ≤ n) (h2 : n ≤ 1000000000) :
    Calls Try.prog 38 #[.pointer (some ⟨g, 0, none⟩), .int .i64 n] w (StepPost w g l A c q 2 0 (n - 1)) := by
  have H := Lib.hid h
  clear h
  by_cases hn : n ≤ 1
  · go_enter Try.func38, Try.ntmps38
    go_wp2
    go_ret
    exact ⟨0, q, by omega, by omega, rfl, by omega, H.out, grown_refl _ _⟩
  · have hn1 : 1 < n := by omega
    by_cases hb : 200 < n
    · go_enter Try.func38, Try.ntmps38
      go_wp2_with fail
      refine (next_any g l A c q _ H.out hl (by omega)).mono ?_
      rintro e w1 ⟨x, q1, hx0, hx1, rfl, hq1, hC1, hG1⟩
      go_wp2_with fail
      refine (next_any g l A c q1 _ hC1 hl (by omega)).mono ?_
      rintro e w2 ⟨y, q2, hy0, hy1, rfl, hq2, hC2, hG2⟩
      go_wp2
      go_ret
      have hm := mod_pick (x * 256 + y) n (by omega) hn1
      exact ⟨_, q2, hm.1, hm.2, rfl, by omega, hC2, grown_trans hG1 hG2⟩
    · go_enter Try.func38, Try.ntmps38
      go_wp2_with fail
      refine (next_any g l A c q _ H.out hl (by omega)).mono ?_
      rintro e w1 ⟨x, q1, hx0, hx1, rfl, hq1, hC1, hG1⟩
      go_wp2
      go_ret
      have hm := mod_pick x n (by omega) hn1
      exact ⟨_, q1, hm.1, hm.2, rfl, by omega, hC1, hG1⟩

/-- A yes or no, the cursor gone on by at most two. -/
def BoolPost (w : World) (g : Nat) (l : List UInt8) (A : Option Addr) (c q d : Nat) (e : Ending) (w' : World) : Prop :=
  ∃ (x : Bool) (q' : Nat), e = .returned (.bool x) ∧ q' ≤ q + d ∧ Cur w' g l A c q' ∧ w.grownBy w' (some g)

/-- Some number of a list, the cursor gone on by at most d. -/
def AmongPost (w : World) (g : Nat) (l : List UInt8) (A : Option Addr) (c q d : Nat) (xs : List Int) (e : Ending) (w' : World) : Prop :=
  ∃ (x : Int) (q' : Nat), x ∈ xs ∧ e = .returned (.int .i64 x) ∧ q' ≤ q + d ∧ Cur w' g l A c q' ∧ w.grownBy w' (some g)

set_option maxRecDepth 100000 in
set_option maxHeartbeats 1000000 in
theorem among_any (g : Nat) (l : List UInt8) (A : Option Addr) (c q : Nat) (b n cap : Nat) (xs : List Int) (w : World) (h : Cur w g l A c q) (hl : l.length ≤ 1048576) (hq : q ≤ 900000000)
    (hn : xs.length = n) (h1 : 1 ≤ n) (h2 : n ≤ 1000) (hbg : b ≠ g) (hc : ∀ k (h : k < xs.length), w.cell? ⟨b, k, none⟩ = some (.int .i64 xs[k])) :
    Calls Try.prog 39 #[.pointer (some ⟨g, 0, none⟩), .slice (some ⟨b, 0, none⟩) n cap] w (AmongPost w g l A c q 2 xs) := by
  have H := Lib.hid h
  have HC := Lib.hid hc
  have HN := Lib.hid hn
  clear h hc hn
  go_enter Try.func39, Try.ntmps39
  go_wp2_with fail
  refine (pick_any g l A c q n _ H.out hl (by omega) (by omega) (by omega)).mono ?_
  rintro e w1 ⟨x, q1, hx0, hx1, rfl, hq1, hC1, hG1⟩
  obtain ⟨k, rfl⟩ := Int.eq_ofNat_of_zero_le hx0
  have hk : k < xs.length := by rw [HN.out]; omega
  have hck := hG1.cell (HC.out k hk) (by simp; exact hbg)
  have hkn : (k : Int) < (n : Int) := by omega
  obtain ⟨y, hy⟩ : ∃ y : Int, y = xs[k] := ⟨_, rfl⟩
  rw [← hy] at hck
  have HY := Lib.hid (show y ∈ xs by rw [hy]; exact List.getElem_mem hk)
  clear hy
  go_wp2
  go_ret
  exact ⟨y, q1, HY.out, rfl, hq1, hC1, hG1⟩

/-- A new block of numbers reads as the list. -/
theorem new_ints (w : World) (xs : List Int) (t : TypeId) : ∀ k (h : k < xs.length), (w.alloc (.cells (xs.map (Value.int .i64)).toArray t)).cell? ⟨w.heap.size, k, none⟩ = some (.int .i64 xs[k]) := by
  intro k hk
  rw [cell_of_row _ w.heap.size k _ t (0, 0) (heap_alloc_new w _)]
  simp [List.getElem?_eq_getElem hk]

theorem BytesAt.toBelow {w : World} {A : Option Addr} {l : List UInt8} (h : BytesAt w A l) : BytesBelow w A l w.heap.size := by
  rcases h with h | ⟨b, off, hA, hb, hc⟩
  · exact .inl h
  · exact .inr ⟨b, off, hA, hb, hc⟩
theorem Cur.belowB {w w' : World} {g c q B : Nat} {l : List UInt8} {A : Option Addr} (h : Cur w g l A c q) (hb : Below B w w') (hg : g < B) : Cur w' g l A c q := by
  obtain ⟨⟨sd, hu, hh⟩, hbb⟩ := h
  exact ⟨⟨sd, hu, (hb.block g hg).trans hh⟩, hbb.keep fun p hp => hb.cell (by omega)⟩
/-- A new cursor. -/
theorem cur_new (w : World) (l : List UInt8) (A : Option Addr) (c : Nat) (h : BytesAt w A l) :
    Cur (w.alloc (.cells #[.slice A l.length c, .int .i64 ((0 : Nat) : Int), .int .u64 0] 71)) w.heap.size l A c 0 := by
  refine ⟨⟨0, by unfold U64; omega, heap_alloc_new w _⟩, ?_⟩
  have hb := (Below.refl w.heap.size w).alloc (Nat.le_refl _) (.cells #[.slice A l.length c, .int .i64 ((0 : Nat) : Int), .int .u64 0] 71)
  exact h.toBelow.keep fun p hp => hb.cell hp
end Go.Proofs.Ytpppgihoekfmoaa
