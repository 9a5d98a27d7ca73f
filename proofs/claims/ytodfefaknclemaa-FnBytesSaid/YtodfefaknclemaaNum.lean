/-
  Contracts: the program's appendNum and the model's l1NumB both write the varint 'M.numB'.
-/
import Derived.Test.YtodfefaknclemaaSum
import Derived.Test.YtodfefaknclemaaMath2
import Derived.Laws.IdiomStrings
import Derived.Laws.BytesArg
import Derived.Lib.AppendStr
import Derived.Deep.AppendLies
import Derived.Outline
namespace Go.Proofs.Ytodfefaknclemaa
open Go.RowKit

/-- Bytes as cells. -/
def B8 (l : List UInt8) : List Value := l.map fun b => Value.int .u8 (b.toNat : Int)
theorem B8_len (l : List UInt8) : (B8 l).length = l.length := by simp [B8]
theorem B8_app (a b : List UInt8) : B8 (a ++ b) = B8 a ++ B8 b := by simp [B8]
theorem B8_one (l : List UInt8) : ∀ u ∈ B8 l, u.oneCell' = true := by
  intro u hu
  simp only [B8, List.mem_map] at hu
  obtain ⟨b, _, rfl⟩ := hu
  rfl

theorem info5 : (Try.prog.info? 5).map (fun i => (i.zero, i.size, i.bytes)) = some (some (.int .u8 0), 1, 1) := by kernel_rfl

/-- 'string(b)' of an owned row of bytes. -/
theorem conv_back {base : Nat} {v : Value} {n : Nat} {l : List UInt8} {w : World} (h : w.ownsRow base 5 1 v n (B8 l)) : (convert 22 9 v).run Try.prog w = .ok (.string ⟨l.toArray⟩) w := by
  have hl : l.length = n := by have := h.1; rw [B8_len] at this; omega
  rcases Nat.eq_zero_or_pos n with h0 | h0
  · subst h0
    have : l = [] := List.eq_nil_of_length_eq_zero hl
    subst this
    rcases h.2 with ⟨rfl, _⟩ | ⟨g, cap, cur, rfl, _, hh, _, _, _, _⟩
    · exact run_convert_bytes_nil w 22 5 Try.underlying22 Try.underlying5 0 0 9 Try.underlying9
    · exact run_convert_bytes_back w 22 9 5 ⟨g, 0, none⟩ cap [] Try.underlying22 Try.underlying5 Try.underlying9 (by intro j hj; simp at hj)
  · obtain ⟨g, cap, rfl, _, _⟩ := h.form h0
    subst hl
    refine run_convert_bytes_back w 22 9 5 ⟨g, 0, none⟩ cap l Try.underlying22 Try.underlying5 Try.underlying9 (fun j hj => ?_)
    exact h.cells (g := g) rfl j _ (by simp [B8, List.getElem?_eq_getElem hj])

theorem own_snoc {base : Nat} {v : Value} {w : World} {acc : List UInt8} {b : UInt8} {x : Int} (hx : (b.toNat : Int) = x) (h : w.ownsRow base 5 1 v (acc.length + 1) (B8 acc ++ [.int .u8 x])) :
    w.ownsRow base 5 1 v (acc ++ [b]).length (B8 (acc ++ [b])) := by
  subst hx
  simpa [B8_app, B8] using h

/-- The one cell that 'append(b, x)' lays first. -/
theorem one_at (w : World) (x : Value) (t : TypeId) : ∀ j u, [x][j]? = some u → (w.alloc (.cells #[x] t)).cell? ((⟨w.heap.size, 0, none⟩ : Addr).add j) = some u := by
  intro j u hj
  match j, hj with
  | 0, hj => simp at hj; subst hj; simp [Addr.add]
theorem one_int (k : IntKind) (x : Int) : ∀ u ∈ [Value.int k x], u.oneCell' = true := by
  intro u hu; simp at hu; subst hu; rfl
theorem below_app {base : Nat} {w wr w1 : World} {v : Value} {n : Nat} {xs : List Value} {e : TypeId} {o : Obj} (hbel : Below base w wr) (hbase : base ≤ w.heap.size) (h : wr.ownsRow base e 1 v n xs)
    (hg : (wr.alloc o).grownBy w1 v.ownBlock) : Below base w w1 := by
  have hs := hbel.size
  exact (hbel.alloc (by omega) o).grown hg (by simp; omega) (fun k hk => (h.lt k hk).1)
theorem below_grown {base : Nat} {w wr w1 : World} {v : Value} {n : Nat} {xs : List Value} {e : TypeId} (hbel : Below base w wr) (hbase : base ≤ w.heap.size) (h : wr.ownsRow base e 1 v n xs)
    (hg : wr.grownBy w1 v.ownBlock) : Below base w w1 := by
  have hs := hbel.size
  exact hbel.grown hg (by omega) (fun k hk => (h.lt k hk).1)

/-- What the loop that writes a varint keeps. -/
def NumRel (base : Nat) (w : World) (r : List UInt8) (top : Nat) (v i : Value) (wr : World) : Prop :=
  ∃ (f k : Nat) (acc : List UInt8), Hid (acc ++ M.numF f k = r) ∧ M.Fits f k ∧ k ≤ 1000000000 ∧ i = .int .i64 (k : Int) ∧ acc.length + f ≤ top ∧ wr.ownsRow base 5 1 v acc.length (B8 acc) ∧ Below base w wr

set_option maxRecDepth 100000 in
set_option maxHeartbeats 1000000 in
theorem appendNum_any (v : Value) (xs : List UInt8) (m base : Nat) (w : World) (hown : w.ownsRow base 5 1 v xs.length (B8 xs)) (hbase : base ≤ w.heap.size) (hm : m ≤ 1000000000) (hlen : xs.length ≤ 1000000000) :
    Calls Try.prog 50 #[v, .int .i64 (m : Int)] w fun e w' => ∃ v', e = .returned v' ∧ w'.ownsRow base 5 1 v' (xs ++ M.numB m).length (B8 (xs ++ M.numB m)) ∧ Below base w w' := by
  obtain ⟨i0, hi, hz0, hz1, hz2⟩ := info_parts info5
  go_enter Try.func50, Try.ntmps50
  go_wp2
  go_loopw [0, 1] (fun v i wr => NumRel base w (xs ++ M.numB m) (xs.length + 9) v i wr) (fun _ i _ => (intOf i).toNat)
  case atStart => exact ⟨9, m, xs, rfl, M.fits_max m hm, hm, rfl, by omega, hown, Below.refl _ _⟩
  case round =>
    obtain ⟨f, k, acc, HE, hf, hk, rfl, htop, hownr, hbel⟩ := hrel
    have hbs := hbel.size
    by_cases hge : 128 ≤ k
    · obtain ⟨f', hff, hf', he'⟩ := M.num_round f k acc _ HE.out hf hge
      have HE' := Lib.hid he'
      have HFF := Lib.hid hff
      clear he' hff
      go_wp2_with (at_builtin; refine wpList_append_own _ rfl (.tmp 7) (.tmp 12) 22 rfl base 5 i0 (.int .u8 0) 1 1 Try.underlying22 hi hz0 hz1 hz2 rfl (by decide) _ _ _ rfl (hownr.alloc _) ⟨wr.heap.size, 0, none⟩ 1 1 [.int .u8 ((k : Int) % 128 + 128)] rfl rfl (one_at _ _ _) (one_int _ _) (by unfold maxLen; omega) (by omega) (by simp; omega) ?_; intro v1 w1 hown1 hg1 _)
      have hb1 := below_app hbel hbase hownr hg1
      have ho1 := own_snoc (M.ofNat_high k) hown1
      clear hown1 hg1 hownr
      go_roundw
      case rel => exact ⟨f', k / 128, acc ++ [UInt8.ofNat (k % 128 + 128)], HE'.out, hf', by omega, by go_num, by have := HFF.out; simp; omega, ho1, hb1⟩
      case measure => simp [intOf]; omega
    · have hlo : (k : Int) < 128 := by omega
      go_wp2_with (at_builtin; refine wpList_append_own _ rfl (.tmp 16) (.tmp 19) 22 rfl base 5 i0 (.int .u8 0) 1 1 Try.underlying22 hi hz0 hz1 hz2 rfl (by decide) _ _ _ rfl (hownr.alloc _) ⟨wr.heap.size, 0, none⟩ 1 1 [.int .u8 (k : Int)] rfl rfl (one_at _ _ _) (one_int _ _) (by unfold maxLen; omega) (by omega) (by simp; omega) ?_; intro v1 w1 hown1 hg1 _)
      go_ret
      refine ⟨_, rfl, ?_, below_app hbel hbase hownr hg1⟩
      rw [← HE.out, M.numF_small f k (by omega)]
      exact own_snoc (M.ofNat_low k (by omega)) hown1

set_option maxRecDepth 100000 in
set_option maxHeartbeats 1000000 in
theorem l1NumB_any (m : Nat) (w : World) (hm : m ≤ 1000000000) :
    Calls Try.prog 52 #[.int .i64 (m : Int)] w fun e w' => e = .returned (.string ⟨(M.numB m).toArray⟩) ∧ Below w.heap.size w w' := by
  obtain ⟨i0, hi, hz0, hz1, hz2⟩ := info_parts info5
  obtain ⟨base, hB⟩ : ∃ base, base = w.heap.size := ⟨_, rfl⟩
  have hbase : base ≤ w.heap.size := by omega
  have HB := Lib.hid hB
  clear hB
  go_enter Try.func52, Try.ntmps52
  go_wp2
  go_loopw [3, 0] (fun v i wr => NumRel base w (M.numB m) 9 v i wr) (fun _ i _ => (intOf i).toNat)
  case atStart => exact ⟨9, m, [], rfl, M.fits_max m hm, hm, rfl, by simp, World.ownsRow_nil _ _ _ _, Below.refl _ _⟩
  case round =>
    obtain ⟨f, k, acc, HE, hf, hk, rfl, htop, hownr, hbel⟩ := hrel
    have hbs := hbel.size
    by_cases hge : 128 ≤ k
    · obtain ⟨f', hff, hf', he'⟩ := M.num_round f k acc _ HE.out hf hge
      have HE' := Lib.hid he'
      have HFF := Lib.hid hff
      clear he' hff
      go_wp2_with (at_builtin; refine wpList_append_own _ rfl (.tmp 8) (.tmp 13) 22 rfl base 5 i0 (.int .u8 0) 1 1 Try.underlying22 hi hz0 hz1 hz2 rfl (by decide) _ _ _ rfl (hownr.alloc _) ⟨wr.heap.size, 0, none⟩ 1 1 [.int .u8 ((k : Int) % 128 + 128)] rfl rfl (one_at _ _ _) (one_int _ _) (by unfold maxLen; omega) (by omega) (by simp; omega) ?_; intro v1 w1 hown1 hg1 _)
      have hb1 := below_app hbel hbase hownr hg1
      have ho1 := own_snoc (M.ofNat_high k) hown1
      clear hown1 hg1 hownr
      go_roundw
      case rel => exact ⟨f', k / 128, acc ++ [UInt8.ofNat (k % 128 + 128)], HE'.out, hf', by omega, by go_num, by have := HFF.out; simp; omega, ho1, hb1⟩
      case measure => simp [intOf]; omega
    · have hlo : (k : Int) < 128 := by omega
      have hres : M.numB m = acc ++ [UInt8.ofNat k] := by rw [← HE.out, M.numF_small f k (by omega)]
      have HR := Lib.hid hres
      clear hres
      go_wp2_with (at_builtin; refine wpList_append_own _ rfl (.tmp 15) (.tmp 18) 22 rfl base 5 i0 (.int .u8 0) 1 1 Try.underlying22 hi hz0 hz1 hz2 rfl (by decide) _ _ _ rfl (hownr.alloc _) ⟨wr.heap.size, 0, none⟩ 1 1 [.int .u8 (k : Int)] rfl rfl (one_at _ _ _) (one_int _ _) (by unfold maxLen; omega) (by omega) (by simp; omega) ?_; intro v1 w1 hown1 hg1 _; have hcv := conv_back (own_snoc (M.ofNat_low k (by omega)) hown1))
      go_ret
      rw [HR.out]
      exact ⟨rfl, by rw [← HB.out]; exact below_app hbel hbase hownr hg1⟩
end Go.Proofs.Ytodfefaknclemaa
