/-
  Several texts in one: C1Math, C1Sum, C1SumLaw, C1Math2, C1Num, C1NumLaw, C1Math3, C1Read, C1Reader, C1ReadNum, C1ReadLaw, C1Text, C1Strs, C1Texts, C1Mark, C1ReadTexts, C1SpecTexts, C1Seal, C1Open, C1BytesMath, C1Oth.
-/
import Derived.Test.YtkhndofplebcaaaRows
import Derived.WalkKit
import Derived.ProofKit
import Derived.Below
import Derived.Lib.Hide
import Derived.Laws.IdiomStrings
import Derived.OpenShut
import Derived.ShutString
import Derived.ChangeOld
import Derived.Laws.BytesArg
import Derived.Lib.AppendStr
import Derived.Deep.AppendLies
import Derived.Outline
import Derived.Deep.Draws
import Derived.Deep.QuietTactic
import Derived.BigQuiet
import Derived.Deep.RegionHeld3
import Derived.Laws.Pointers
import Derived.Lib.Strings
import Derived.Test.YtkhndofplebcaaaShelf
import Derived.OwnWalk
import Derived.ArgAppend
import Derived.Laws.ResultCell
import Derived.WalkLawsBesides
import Derived.WalkSpells
import Derived.BigRegion
import Derived.Laws.StructEq
import Derived.ChangeKeysEq

/-
  Plain facts on lists of bytes and on numbers that the walks of chapter 1 use: the checksum as a fold. No Go in sight; no condition.
-/
namespace Go.Proofs.Ytkhndofplebcaaa.C1.M

/-- One step of the checksum. -/
def sumStep (n : Nat) (c : UInt8) : Nat := (31 * n + c.toNat + 1) % 16000057
/-- The checksum of some bytes. -/
def sumL (l : List UInt8) : Nat := l.foldl sumStep 7

theorem sumStep_lt (n : Nat) (c : UInt8) : sumStep n c < 16000057 := by unfold sumStep; omega
theorem sumFold_lt (l : List UInt8) (n : Nat) (h : n < 16000057) : l.foldl sumStep n < 16000057 := by
  induction l generalizing n with
  | nil => exact h
  | cons c l ih => exact ih _ (sumStep_lt n c)
theorem sumL_lt (l : List UInt8) : sumL l < 16000057 := sumFold_lt l 7 (by omega)
theorem sumL_snoc (l : List UInt8) (c : UInt8) : sumL (l ++ [c]) = sumStep (sumL l) c := by simp [sumL]
theorem take_snoc (l : List UInt8) (k : Nat) (h : k < l.length) : l.take (k + 1) = l.take k ++ [l[k]] := by
  rw [List.take_succ_eq_append_getElem h]
theorem sumL_take (l : List UInt8) (k : Nat) (h : k < l.length) : sumL (l.take (k + 1)) = sumStep (sumL (l.take k)) l[k] := by
  rw [take_snoc l k h, sumL_snoc]
/-- The step as the walk writes it, over the integers. -/
theorem sumStep_int (n : Nat) (c : UInt8) : (((31 * (n : Int) + (c.toNat : Int) + 1) % 16000057 : Int)) = ((sumStep n c : Nat) : Int) := by
  unfold sumStep; omega
theorem sumStep_int' (n : Nat) (c : UInt8) : ((((n : Int) * 31 + (c.toNat : Int) + 1) % 16000057 : Int)) = ((sumStep n c : Nat) : Int) := by
  unfold sumStep; omega
end Go.Proofs.Ytkhndofplebcaaa.C1.M

/-
  Contracts: the model's l1Sum over a string and the program's sumBytes over a slice of bytes both give the fold 'M.sumL'.
-/
namespace Go.Proofs.Ytkhndofplebcaaa.C1
open Go.RowKit

theorem ret_int {k : IntKind} {a b : Int} (h : a = b) : Ending.returned (.int k a) = .returned (.int k b) := by rw [h]
theorem val_int {k : IntKind} {a b : Int} (h : a = b) : Value.int k a = .int k b := by rw [h]

set_option maxHeartbeats 400000 in
theorem l1Sum_any (s : ByteArray) (w : World) (hs : s.size ≤ maxLen) :
    Calls Try.prog 163 #[.string s] w fun e w' => e = .returned (.int .i64 (M.sumL s.data.toList : Nat)) ∧ w = w' := by
  unfold maxLen at hs
  go_enter Try.func163, Try.ntmps163
  go_wp2
  go_loop [3, 4] (fun n i => ∃ k : Nat, k ≤ s.size ∧ i = .int .i64 k ∧ n = .int .i64 (M.sumL (s.data.toList.take k) : Nat)) (fun _ i => s.size - (intOf i).toNat)
  case atStart => exact ⟨0, Nat.zero_le _, rfl, rfl⟩
  case round =>
    obtain ⟨k, hk, rfl, rfl⟩ := hrel
    have hb := M.sumL_lt (s.data.toList.take k)
    by_cases hlt : k < s.size
    · have hst : M.sumL (s.data.toList.take (k + 1)) = M.sumStep (M.sumL (s.data.toList.take k)) s[k] := M.sumL_take s.data.toList k (by simpa using hlt)
      have HS := Lib.hid hst
      clear hst
      have h8 : (s[k].toNat : Int) < 256 := by have := s[k].toNat_lt; omega
      go_wp2
      go_round
      case rel => exact ⟨k + 1, by omega, by go_num, val_int (by rw [HS.out]; exact M.sumStep_int _ _)⟩
      case measure => simp [intOf]; omega
    · go_wp2
      go_ret
      exact ⟨ret_int (by rw [List.take_of_length_le (by simp; omega)]), rfl⟩

/-- A slice of bytes that reads as the list l: nil and empty, or cells at an address. -/
def BytesAt (w : World) (A : Option Addr) (l : List UInt8) : Prop :=
  l = [] ∨ ∃ b off, A = some ⟨b, off, none⟩ ∧ b < w.heap.size ∧ ∀ k (h : k < l.length), w.cell? ⟨b, off + k, none⟩ = some (.int .u8 (l[k].toNat : Int))

set_option maxHeartbeats 400000 in
theorem sumBytes_any (A : Option Addr) (n c : Nat) (l : List UInt8) (w : World) (hn : l.length = n) (h : BytesAt w A l) (hl : n ≤ maxLen) :
    Calls Try.prog 168 #[.slice A n c] w fun e w' => e = .returned (.int .i64 (M.sumL l : Nat)) ∧ w = w' := by
  subst hn
  unfold maxLen at hl
  rcases h with rfl | ⟨b, off, rfl, hbs, hc⟩
  · go_enter Try.func168, Try.ntmps168
    go_wp2
    refine wp_loop_rounds 1 ?_
    rw [rounds_succ]
    go_wp2
    go_ret
    exact ⟨rfl, rfl⟩
  · have HC := Lib.hid hc
    clear hc
    go_enter Try.func168, Try.ntmps168
    go_wp2
    go_loop [3, 8] (fun n i => ∃ k : Nat, k ≤ l.length ∧ i = .int .i64 k ∧ n = .int .i64 (M.sumL (l.take k) : Nat)) (fun _ i => l.length - (intOf i).toNat)
    case atStart => exact ⟨0, Nat.zero_le _, rfl, rfl⟩
    case round =>
      obtain ⟨k, hk, rfl, rfl⟩ := hrel
      have hb := M.sumL_lt (l.take k)
      by_cases hlt : k < l.length
      · have hst : M.sumL (l.take (k + 1)) = M.sumStep (M.sumL (l.take k)) l[k] := M.sumL_take l k hlt
        have HS := Lib.hid hst
        clear hst
        have h8 : (l[k].toNat : Int) < 256 := by have := l[k].toNat_lt; omega
        have hck := HC.out k hlt
        go_wp2
        go_round
        case rel => exact ⟨k + 1, by omega, by go_num, val_int (by rw [HS.out]; exact M.sumStep_int' _ _)⟩
        case measure => simp [intOf]; omega
      · go_wp2
        go_ret
        exact ⟨ret_int (by rw [List.take_of_length_le (by omega)]), rfl⟩
end Go.Proofs.Ytkhndofplebcaaa.C1

/-
  FnExactSumOf: SumOf of the program and of the model give the same answer at every string of at most 2^20 bytes (longer ones: the law itself answers true).
-/
namespace Go.Proofs.Ytkhndofplebcaaa.C1
open Go.ChangeShapes Go.WideShapes Go.ChangeAt Go.RowKit
open Go.ChangeMaps (open_string shut_string)

/-- '[]byte(s)': a new block, the string's bytes at its head. -/
theorem conv_bytes (s : ByteArray) (w : World) : ∃ cap w1, (convert 9 115 (.string s)).run Try.prog w = .ok (.slice (some ⟨w.heap.size, 0, none⟩) s.size cap) w1 ∧
    w1.heap[w.heap.size]? = some (.cells (bytesRow s cap) 5 ((bytesRow s cap).size, (bytesRow s cap).size + 1)) ∧ s.size ≤ cap ∧ Below w.heap.size w w1 ∧ w1.heap.size = w.heap.size + 1 := by
  refine ⟨_, _, run_bytes_of_string w 9 115 5 s Try.underlying9 Try.underlying115 Try.underlying5, ?_, grownCap_ge _ _ _ _, ?_, ?_⟩
  · show (w.heap.push _)[w.heap.size]? = _
    simp
  · exact ((Below.refl _ _).drew).alloc (by exact Nat.le_refl _) _
  · show (w.heap.push _).size = _
    simp

theorem bytesAt_row {w : World} {s : ByteArray} {g cap : Nat} {m : Nat × Nat} (h : w.heap[g]? = some (.cells (bytesRow s cap) 5 m)) : BytesAt w (some ⟨g, 0, none⟩) s.data.toList := by
  refine .inr ⟨g, 0, rfl, (Array.getElem?_eq_some_iff.1 h).1, fun k hk => ?_⟩
  rw [cell_of_row w g (0 + k) _ _ _ h, Nat.zero_add, bytesRow_at s cap k (by simpa using hk)]
  simp

end Go.Proofs.Ytkhndofplebcaaa.C1

/-
  Plain facts on the varint of a number (numB) and on cells that hold bytes (B8). No Go in sight; no condition.
-/
namespace Go.Proofs.Ytkhndofplebcaaa.C1.M

/-- The varint with at most f + 1 bytes. -/
def numF : Nat → Nat → List UInt8
  | 0, n => [UInt8.ofNat n]
  | f + 1, n => if n < 128 then [UInt8.ofNat n] else UInt8.ofNat (n % 128 + 128) :: numF f (n / 128)
/-- The varint of a number below 128 ^ 10. -/
def numB (n : Nat) : List UInt8 := numF 9 n
/-- k fits into f + 1 bytes. -/
def Fits (f k : Nat) : Prop := k < 128 ^ (f + 1)

theorem numF_small (f n : Nat) (h : n < 128) : numF f n = [UInt8.ofNat n] := by
  cases f with
  | zero => rfl
  | succ f => simp [numF, h]
theorem numF_step (f n : Nat) (h : 128 ≤ n) : numF (f + 1) n = UInt8.ofNat (n % 128 + 128) :: numF f (n / 128) := by
  simp [numF, Nat.not_lt.2 h]
theorem fits_pos (f k : Nat) (h : Fits f k) (hk : 128 ≤ k) : ∃ f', f = f' + 1 ∧ Fits f' (k / 128) := by
  cases f with
  | zero => unfold Fits at h; omega
  | succ f =>
    refine ⟨f, rfl, ?_⟩
    unfold Fits at h ⊢
    rw [Nat.pow_succ] at h
    exact Nat.div_lt_of_lt_mul (by omega)
theorem fits_max (k : Nat) (h : k ≤ 1000000000) : Fits 9 k := by unfold Fits; omega
theorem numF_len (f n : Nat) : (numF f n).length ≤ f + 1 ∧ 0 < (numF f n).length := by
  induction f generalizing n with
  | zero => simp [numF]
  | succ f ih =>
    unfold numF
    split
    · simp
    · have := ih (n / 128); simp; omega
theorem numB_len (n : Nat) : (numB n).length ≤ 10 ∧ 0 < (numB n).length := numF_len 9 n
theorem ofNat_high (k : Nat) : ((UInt8.ofNat (k % 128 + 128)).toNat : Int) = (k : Int) % 128 + 128 := by
  simp [UInt8.toNat_ofNat']; omega
theorem ofNat_low (k : Nat) (h : k < 128) : ((UInt8.ofNat k).toNat : Int) = (k : Int) := by
  simp [UInt8.toNat_ofNat']; omega
/-- One round of the loop that writes a varint: what has been written, and what is still to come. -/
theorem num_round (f k : Nat) (acc r : List UInt8) (he : acc ++ numF f k = r) (hf : Fits f k) (hk : 128 ≤ k) :
    ∃ f', f = f' + 1 ∧ Fits f' (k / 128) ∧ (acc ++ [UInt8.ofNat (k % 128 + 128)]) ++ numF f' (k / 128) = r := by
  obtain ⟨f', rfl, h⟩ := fits_pos f k hf hk
  exact ⟨f', rfl, h, by rw [← he, numF_step f' k hk]; simp⟩
end Go.Proofs.Ytkhndofplebcaaa.C1.M

/-
  Contracts: the program's appendNum and the model's l1NumB both write the varint 'M.numB'.
-/
namespace Go.Proofs.Ytkhndofplebcaaa.C1
open Go.RowKit

/-- Bytes as cells. -/
def B8 (l : List UInt8) : List Value := l.map fun b => Value.int .u8 (b.toNat : Int)
theorem B8_len (l : List UInt8) : (B8 l).length = l.length := by simp [B8]
theorem B8_app (a b : List UInt8) : B8 (a ++ b) = B8 a ++ B8 b := by simp [B8]
theorem B8_one (l : List UInt8) : ∀ u ∈ B8 l, u.oneCell' = true := by
  intro u hu
  simp only [B8, List.mem_map] at hu
  obtain ⟨b, _, rfl⟩ := hu
  rfl

theorem info5 : (Try.prog.info? 5).map (fun i => (i.zero, i.size, i.bytes)) = some (some (.int .u8 0), 1, 1) := by kernel_rfl

/-- 'string(b)' of an owned row of bytes. -/
theorem conv_back {base : Nat} {v : Value} {n : Nat} {l : List UInt8} {w : World} (h : w.ownsRow base 5 1 v n (B8 l)) : (convert 115 9 v).run Try.prog w = .ok (.string ⟨l.toArray⟩) w := by
  have hl : l.length = n := by have := h.1; rw [B8_len] at this; omega
  rcases Nat.eq_zero_or_pos n with h0 | h0
  · subst h0
    have : l = [] := List.eq_nil_of_length_eq_zero hl
    subst this
    rcases h.2 with ⟨rfl, _⟩ | ⟨g, cap, cur, rfl, _, hh, _, _, _, _⟩
    · exact run_convert_bytes_nil w 115 5 Try.underlying115 Try.underlying5 0 0 9 Try.underlying9
    · exact run_convert_bytes_back w 115 9 5 ⟨g, 0, none⟩ cap [] Try.underlying115 Try.underlying5 Try.underlying9 (by intro j hj; simp at hj)
  · obtain ⟨g, cap, rfl, _, _⟩ := h.form h0
    subst hl
    refine run_convert_bytes_back w 115 9 5 ⟨g, 0, none⟩ cap l Try.underlying115 Try.underlying5 Try.underlying9 (fun j hj => ?_)
    exact h.cells (g := g) rfl j _ (by simp [B8, List.getElem?_eq_getElem hj])

theorem own_snoc {base : Nat} {v : Value} {w : World} {acc : List UInt8} {b : UInt8} {x : Int} (hx : (b.toNat : Int) = x) (h : w.ownsRow base 5 1 v (acc.length + 1) (B8 acc ++ [.int .u8 x])) :
    w.ownsRow base 5 1 v (acc ++ [b]).length (B8 (acc ++ [b])) := by
  subst hx
  simpa [B8_app, B8] using h

/-- The one cell that 'append(b, x)' lays first. -/
theorem one_at (w : World) (x : Value) (t : TypeId) : ∀ j u, [x][j]? = some u → (w.alloc (.cells #[x] t)).cell? ((⟨w.heap.size, 0, none⟩ : Addr).add j) = some u := by
  intro j u hj
  match j, hj with
  | 0, hj => simp at hj; subst hj; simp [Addr.add]
theorem one_int (k : IntKind) (x : Int) : ∀ u ∈ [Value.int k x], u.oneCell' = true := by
  intro u hu; simp at hu; subst hu; rfl
theorem below_app {base : Nat} {w wr w1 : World} {v : Value} {n : Nat} {xs : List Value} {e : TypeId} {o : Obj} (hbel : Below base w wr) (hbase : base ≤ w.heap.size) (h : wr.ownsRow base e 1 v n xs)
    (hg : (wr.alloc o).grownBy w1 v.ownBlock) : Below base w w1 := by
  have hs := hbel.size
  exact (hbel.alloc (by omega) o).grown hg (by simp; omega) (fun k hk => (h.lt k hk).1)
theorem below_grown {base : Nat} {w wr w1 : World} {v : Value} {n : Nat} {xs : List Value} {e : TypeId} (hbel : Below base w wr) (hbase : base ≤ w.heap.size) (h : wr.ownsRow base e 1 v n xs)
    (hg : wr.grownBy w1 v.ownBlock) : Below base w w1 := by
  have hs := hbel.size
  exact hbel.grown hg (by omega) (fun k hk => (h.lt k hk).1)

/-- What the loop that writes a varint keeps. -/
def NumRel (base : Nat) (w : World) (r : List UInt8) (top : Nat) (v i : Value) (wr : World) : Prop :=
  ∃ (f k : Nat) (acc : List UInt8), Hid (acc ++ M.numF f k = r) ∧ M.Fits f k ∧ k ≤ 1000000000 ∧ i = .int .i64 (k : Int) ∧ acc.length + f ≤ top ∧ wr.ownsRow base 5 1 v acc.length (B8 acc) ∧ Below base w wr

set_option maxRecDepth 100000 in
set_option maxHeartbeats 1000000 in
theorem appendNum_any (v : Value) (xs : List UInt8) (m base : Nat) (w : World) (hown : w.ownsRow base 5 1 v xs.length (B8 xs)) (hbase : base ≤ w.heap.size) (hm : m ≤ 1000000000) (hlen : xs.length ≤ 1000000000) :
    Calls Try.prog 87 #[v, .int .i64 (m : Int)] w fun e w' => ∃ v', e = .returned v' ∧ w'.ownsRow base 5 1 v' (xs ++ M.numB m).length (B8 (xs ++ M.numB m)) ∧ Below base w w' := by
  obtain ⟨i0, hi, hz0, hz1, hz2⟩ := info_parts info5
  go_enter Try.func87, Try.ntmps87
  go_wp2
  go_loopw [0, 1] (fun v i wr => NumRel base w (xs ++ M.numB m) (xs.length + 9) v i wr) (fun _ i _ => (intOf i).toNat)
  case atStart => exact ⟨9, m, xs, rfl, M.fits_max m hm, hm, rfl, by omega, hown, Below.refl _ _⟩
  case round =>
    obtain ⟨f, k, acc, HE, hf, hk, rfl, htop, hownr, hbel⟩ := hrel
    have hbs := hbel.size
    by_cases hge : 128 ≤ k
    · obtain ⟨f', hff, hf', he'⟩ := M.num_round f k acc _ HE.out hf hge
      have HE' := Lib.hid he'
      have HFF := Lib.hid hff
      clear he' hff
      go_wp2_with (at_builtin; refine wpList_append_own _ rfl (.tmp 7) (.tmp 12) 115 rfl base 5 i0 (.int .u8 0) 1 1 Try.underlying115 hi hz0 hz1 hz2 rfl (by decide) _ _ _ rfl (hownr.alloc _) ⟨wr.heap.size, 0, none⟩ 1 1 [.int .u8 ((k : Int) % 128 + 128)] rfl rfl (one_at _ _ _) (one_int _ _) (by unfold maxLen; omega) (by omega) (by simp; omega) ?_; intro v1 w1 hown1 hg1 _)
      have hb1 := below_app hbel hbase hownr hg1
      have ho1 := own_snoc (M.ofNat_high k) hown1
      clear hown1 hg1 hownr
      go_roundw
      case rel => exact ⟨f', k / 128, acc ++ [UInt8.ofNat (k % 128 + 128)], HE'.out, hf', by omega, by go_num, by have := HFF.out; simp; omega, ho1, hb1⟩
      case measure => simp [intOf]; omega
    · have hlo : (k : Int) < 128 := by omega
      go_wp2_with (at_builtin; refine wpList_append_own _ rfl (.tmp 16) (.tmp 19) 115 rfl base 5 i0 (.int .u8 0) 1 1 Try.underlying115 hi hz0 hz1 hz2 rfl (by decide) _ _ _ rfl (hownr.alloc _) ⟨wr.heap.size, 0, none⟩ 1 1 [.int .u8 (k : Int)] rfl rfl (one_at _ _ _) (one_int _ _) (by unfold maxLen; omega) (by omega) (by simp; omega) ?_; intro v1 w1 hown1 hg1 _)
      go_ret
      refine ⟨_, rfl, ?_, below_app hbel hbase hownr hg1⟩
      rw [← HE.out, M.numF_small f k (by omega)]
      exact own_snoc (M.ofNat_low k (by omega)) hown1

set_option maxRecDepth 100000 in
set_option maxHeartbeats 1000000 in
theorem l1NumB_any (m : Nat) (w : World) (hm : m ≤ 1000000000) :
    Calls Try.prog 84 #[.int .i64 (m : Int)] w fun e w' => e = .returned (.string ⟨(M.numB m).toArray⟩) ∧ Below w.heap.size w w' := by
  obtain ⟨i0, hi, hz0, hz1, hz2⟩ := info_parts info5
  obtain ⟨base, hB⟩ : ∃ base, base = w.heap.size := ⟨_, rfl⟩
  have hbase : base ≤ w.heap.size := by omega
  have HB := Lib.hid hB
  clear hB
  go_enter Try.func84, Try.ntmps84
  go_wp2
  go_loopw [3, 0] (fun v i wr => NumRel base w (M.numB m) 9 v i wr) (fun _ i _ => (intOf i).toNat)
  case atStart => exact ⟨9, m, [], rfl, M.fits_max m hm, hm, rfl, by simp, World.ownsRow_nil _ _ _ _, Below.refl _ _⟩
  case round =>
    obtain ⟨f, k, acc, HE, hf, hk, rfl, htop, hownr, hbel⟩ := hrel
    have hbs := hbel.size
    by_cases hge : 128 ≤ k
    · obtain ⟨f', hff, hf', he'⟩ := M.num_round f k acc _ HE.out hf hge
      have HE' := Lib.hid he'
      have HFF := Lib.hid hff
      clear he' hff
      go_wp2_with (at_builtin; refine wpList_append_own _ rfl (.tmp 8) (.tmp 13) 115 rfl base 5 i0 (.int .u8 0) 1 1 Try.underlying115 hi hz0 hz1 hz2 rfl (by decide) _ _ _ rfl (hownr.alloc _) ⟨wr.heap.size, 0, none⟩ 1 1 [.int .u8 ((k : Int) % 128 + 128)] rfl rfl (one_at _ _ _) (one_int _ _) (by unfold maxLen; omega) (by omega) (by simp; omega) ?_; intro v1 w1 hown1 hg1 _)
      have hb1 := below_app hbel hbase hownr hg1
      have ho1 := own_snoc (M.ofNat_high k) hown1
      clear hown1 hg1 hownr
      go_roundw
      case rel => exact ⟨f', k / 128, acc ++ [UInt8.ofNat (k % 128 + 128)], HE'.out, hf', by omega, by go_num, by have := HFF.out; simp; omega, ho1, hb1⟩
      case measure => simp [intOf]; omega
    · have hlo : (k : Int) < 128 := by omega
      have hres : M.numB m = acc ++ [UInt8.ofNat k] := by rw [← HE.out, M.numF_small f k (by omega)]
      have HR := Lib.hid hres
      clear hres
      go_wp2_with (at_builtin; refine wpList_append_own _ rfl (.tmp 15) (.tmp 18) 115 rfl base 5 i0 (.int .u8 0) 1 1 Try.underlying115 hi hz0 hz1 hz2 rfl (by decide) _ _ _ rfl (hownr.alloc _) ⟨wr.heap.size, 0, none⟩ 1 1 [.int .u8 (k : Int)] rfl rfl (one_at _ _ _) (one_int _ _) (by unfold maxLen; omega) (by omega) (by simp; omega) ?_; intro v1 w1 hown1 hg1 _; have hcv := conv_back (own_snoc (M.ofNat_low k (by omega)) hown1))
      go_ret
      rw [HR.out]
      exact ⟨rfl, by rw [← HB.out]; exact below_app hbel hbase hownr hg1⟩
end Go.Proofs.Ytkhndofplebcaaa.C1

/-
  Contracts for l1In, NumBytes, appendText, l1TextB and TextBytes of program and model, and the walks of the laws FnExactNumBytes and FnExactTextBytes.
-/
namespace Go.Proofs.Ytkhndofplebcaaa.C1
open Go.RowKit

set_option maxHeartbeats 400000 in
theorem l1In_yes (a b c : Int) (w : World) (h1 : b ≤ a) (h2 : a ≤ c) :
    Calls Try.prog 38 #[.int .i64 a, .int .i64 b, .int .i64 c] w fun e w' => e = .returned (.bool true) ∧ w = w' := by
  go_enter Try.func38, Try.ntmps38
  go_wp2
  go_ret
  exact ⟨rfl, rfl⟩

set_option maxHeartbeats 400000 in
theorem l1In_no (a b c : Int) (w : World) (h : a < b ∨ c < a) :
    Calls Try.prog 38 #[.int .i64 a, .int .i64 b, .int .i64 c] w fun e w' => e = .returned (.bool false) ∧ w = w' := by
  by_cases h1 : b ≤ a
  · have hd : decide (a ≤ c) = false := by simp; omega
    clear h
    go_enter Try.func38, Try.ntmps38
    go_wp2
    go_ret
    exact ⟨rfl, rfl⟩
  · have h2 : a < b := by omega
    clear h
    go_enter Try.func38, Try.ntmps38
    go_wp2
    go_ret
    exact ⟨rfl, rfl⟩

/-- The bytes of a text: its length, and itself. -/
def textB (l : List UInt8) : List UInt8 := M.numB l.length ++ l

theorem strCells_B8 (s : ByteArray) : Lib.strCells s = B8 s.data.toList := rfl

set_option maxRecDepth 100000 in
set_option maxHeartbeats 400000 in
theorem appendText_any (v : Value) (xs : List UInt8) (s : ByteArray) (base : Nat) (w : World) (hown : w.ownsRow base 5 1 v xs.length (B8 xs)) (hbase : base ≤ w.heap.size) (hs : s.size ≤ 1048576) (hlen : xs.length ≤ 1000000000) :
    Calls Try.prog 91 #[v, .string s] w fun e w' => ∃ v', e = .returned v' ∧ w'.ownsRow base 5 1 v' (xs ++ textB s.data.toList).length (B8 (xs ++ textB s.data.toList)) ∧ Below base w w' := by
  obtain ⟨i0, hi, hz0, hz1, hz2⟩ := info_parts info5
  have hn := M.numB_len s.size
  go_enter Try.func91, Try.ntmps91
  go_wp2_with fail
  refine (appendNum_any _ xs s.size base _ hown hbase (by omega) hlen).mono ?_
  rintro e w1 ⟨v1, rfl, hown1, hb1⟩
  have hbs := hb1.size
  go_wp2_with (at_builtin; refine Lib.wpList_append_own_string _ rfl (.tmp 8) (.tmp 9) 115 9 rfl base 5 i0 Try.underlying115 Try.underlying9 hi hz0 hz1 hz2 _ _ _ rfl hown1 s rfl (by unfold maxLen; simp; omega) (by simp; omega) (by omega) ?_; intro v2 w2 hown2 hg2 _)
  go_ret
  refine ⟨_, rfl, ?_, below_grown hb1 hbase hown1 hg2⟩
  rw [strCells_B8, ← B8_app] at hown2
  have e1 : s.data.toList.length = s.size := by simp
  simpa [textB, e1, List.append_assoc, Nat.add_assoc] using hown2

set_option maxHeartbeats 400000 in
theorem l1TextB_any (s : ByteArray) (w : World) (hs : s.size ≤ 1048576) :
    Calls Try.prog 130 #[.string s] w fun e w' => e = .returned (.string ⟨(textB s.data.toList).toArray⟩) ∧ Below w.heap.size w w' := by
  have hn := M.numB_len s.size
  have hadd := fun (W : World) => run_string_add_sum (P := Try.prog) (w := W) ⟨(M.numB s.size).toArray⟩ s (by rw [size_of_list]; omega)
  have e0 : (⟨(M.numB s.size).toArray⟩ : ByteArray) ++ s = ⟨(textB s.data.toList).toArray⟩ := by
    apply ByteArray.ext
    apply Array.ext'
    simp [textB]
  simp only [e0] at hadd
  clear e0
  go_enter Try.func130, Try.ntmps130
  go_wp2_with fail
  refine (l1NumB_any s.size _ (by omega)).mono ?_
  rintro e w1 ⟨rfl, hb1⟩
  go_wp2
  go_ret
  exact ⟨rfl, hb1⟩

end Go.Proofs.Ytkhndofplebcaaa.C1

/-
  Plain facts on reading a varint: what a reader makes of the bytes at an offset (readAt), and when the varint of what was read is what was read. No Go in sight; no condition.
-/
namespace Go.Proofs.Ytkhndofplebcaaa.C1.M

/-- The number that little-endian groups of seven bits spell. -/
def vl : List UInt8 → Nat
  | [] => 0
  | c :: r => c.toNat % 128 + 128 * vl r
/-- All bytes but the last are 128 or more, the last is below 128. -/
def body : List UInt8 → Prop
  | [] => False
  | [c] => c.toNat < 128
  | c :: d :: r => 128 ≤ c.toNat ∧ body (d :: r)
def lastOf : List UInt8 → UInt8
  | [] => 0
  | [c] => c
  | _ :: d :: r => lastOf (d :: r)

theorem vl_snoc (l : List UInt8) (c : UInt8) : vl (l ++ [c]) = vl l + c.toNat % 128 * 128 ^ l.length := by
  induction l with
  | nil => simp [vl]
  | cons x l ih => simp only [List.cons_append, vl, ih, List.length_cons, Nat.pow_succ]; rw [Nat.mul_add]; rw [show 128 * (c.toNat % 128 * 128 ^ l.length) = c.toNat % 128 * (128 ^ l.length * 128) from by rw [Nat.mul_comm 128, Nat.mul_assoc]]; omega
theorem vl_lt (l : List UInt8) : vl l < 128 ^ l.length := by
  induction l with
  | nil => simp [vl]
  | cons x l ih => simp only [vl, List.length_cons, Nat.pow_succ]; omega
theorem vl_pos (l : List UInt8) (hb : body l) (h : (lastOf l).toNat ≠ 0) : 1 ≤ vl l := by
  induction l with
  | nil => exact hb.elim
  | cons c r ih =>
    cases r with
    | nil => simp only [body] at hb; simp only [lastOf] at h; simp only [vl]; omega
    | cons d r => simp only [vl]; have := ih hb.2 h; simp only [vl] at this; omega
theorem ofNat_toNat (c : UInt8) : UInt8.ofNat c.toNat = c := by simp
/-- A minimal encoding is the varint of what it spells. -/
theorem numF_vl (f : Nat) (l : List UInt8) (hb : body l) (hl : l.length ≤ f + 1) (h : l.length = 1 ∨ (lastOf l).toNat ≠ 0) : numF f (vl l) = l := by
  induction l generalizing f with
  | nil => exact hb.elim
  | cons c r ih =>
    cases r with
    | nil =>
      simp only [body] at hb
      have e : vl [c] = c.toNat := by simp [vl]; omega
      rw [e, numF_small f _ hb, ofNat_toNat]
    | cons d r =>
      have hlast : (lastOf (d :: r)).toNat ≠ 0 := by rcases h with h | h; · simp at h
                                                     · exact h
      have hp := vl_pos (d :: r) hb.2 hlast
      have h1 := hb.1
      have hc := c.toNat_lt
      obtain ⟨f', rfl⟩ : ∃ f', f = f' + 1 := ⟨f - 1, by simp at hl; omega⟩
      have e : vl (c :: d :: r) = c.toNat % 128 + 128 * vl (d :: r) := rfl
      rw [e]
      rw [numF_step f' _ (by omega)]
      have e1 : (c.toNat % 128 + 128 * vl (d :: r)) % 128 + 128 = c.toNat := by omega
      have e2 : (c.toNat % 128 + 128 * vl (d :: r)) / 128 = vl (d :: r) := by omega
      rw [e1, e2, ofNat_toNat, ih f' hb.2 (by simp at hl ⊢; omega) (.inr hlast)]
theorem lastOf_numF (f n : Nat) (hf : Fits f n) : (lastOf (numF f n)).toNat < 128 ∧ (1 ≤ n → (lastOf (numF f n)).toNat ≠ 0) := by
  induction f generalizing n with
  | zero => unfold Fits at hf; simp [numF, lastOf, UInt8.toNat_ofNat']; omega
  | succ f ih =>
    by_cases h : n < 128
    · rw [numF_small _ _ h]; simp [lastOf, UInt8.toNat_ofNat']; omega
    · obtain ⟨f', e, h'⟩ := fits_pos _ _ hf (by omega)
      have e' : f = f' := by omega
      subst e'
      rw [numF_step f n (by omega)]
      have := ih (n / 128) h'
      have hne := (numF_len f (n / 128)).2
      cases hq : numF f (n / 128) with
      | nil => rw [hq] at hne; simp at hne
      | cons d r => rw [hq] at this; exact ⟨this.1, fun _ => this.2 (by omega)⟩
/-- An encoding of two bytes or more whose last byte is zero is no varint. -/
theorem numB_ne_zero (n : Nat) (hn : n ≤ 1000000000) (l : List UInt8) (hl : 2 ≤ l.length) (h : (lastOf l).toNat = 0) : numB n ≠ l := by
  intro e
  have hL := lastOf_numF 9 n (fits_max n hn)
  change (lastOf (numB n)).toNat < 128 ∧ (1 ≤ n → (lastOf (numB n)).toNat ≠ 0) at hL
  rw [e] at hL
  rcases Nat.eq_zero_or_pos n with h0 | h0
  · subst h0
    have : numB 0 = [0] := rfl
    rw [this] at e
    rw [← e] at hl
    simp at hl
  · exact hL.2 h0 h
/-- A list whose last byte is 128 or more is no varint. -/
theorem numB_ne_high (n : Nat) (hn : n ≤ 1000000000) (l : List UInt8) (h : 128 ≤ (lastOf l).toNat) : numB n ≠ l := by
  intro e
  have hL := (lastOf_numF 9 n (fits_max n hn)).1
  change (lastOf (numB n)).toNat < 128 at hL
  rw [e] at hL
  omega
end Go.Proofs.Ytkhndofplebcaaa.C1.M
namespace Go.Proofs.Ytkhndofplebcaaa.C1.M
/-- The first place of a byte below 128, among the next f places from k on. -/
def scan (d : List UInt8) : Nat → Nat → Option Nat
  | 0, _ => none
  | f + 1, k => if k < d.length then (if (d.getD k 0).toNat < 128 then some k else scan d f (k + 1)) else none
/-- What a reader of a varint makes of the bytes d that begin at offset q: the number, the offset behind it, whether there is one. -/
def readAt (d : List UInt8) (q : Nat) : Nat × Nat × Bool :=
  match scan d 5 0 with
  | none => (0, 0, false)
  | some k => if vl (d.take (k + 1)) ≤ 1000000000 ∧ (k = 0 ∨ (d.getD k 0).toNat ≠ 0) then (vl (d.take (k + 1)), q + k + 1, true) else (0, 0, false)
def readNum (l : List UInt8) (q : Nat) : Nat × Nat × Bool := readAt (l.drop q) q
/-- The first k bytes are 128 or more. -/
def High (d : List UInt8) (k : Nat) : Prop := ∀ j, j < k → 128 ≤ (d.getD j 0).toNat

theorem High.step {d : List UInt8} {k : Nat} (h : High d k) (hk : 128 ≤ (d.getD k 0).toNat) : High d (k + 1) := by
  intro j hj
  rcases Nat.lt_or_ge j k with h1 | h1
  · exact h j h1
  · have : j = k := by omega
    subst this; exact hk
theorem scan_high (d : List UInt8) (k : Nat) (h : High d k) (hk : k ≤ 5) (hl : k ≤ d.length) : scan d 5 0 = scan d (5 - k) k := by
  induction k with
  | zero => rfl
  | succ k ih =>
    rw [ih (fun j hj => h j (by omega)) (by omega) (by omega)]
    obtain ⟨f, hf⟩ : ∃ f, 5 - k = f + 1 := ⟨4 - k, by omega⟩
    rw [hf, show 5 - (k + 1) = f from by omega]
    have := h k (by omega)
    simp only [scan]
    rw [if_pos (by omega), if_neg (by omega)]
theorem read_end (d : List UInt8) (q k : Nat) (h : High d k) (hk : k ≤ 5) (hl : k ≤ d.length) (he : k = 5 ∨ k = d.length) : readAt d q = (0, 0, false) := by
  have hs : scan d 5 0 = none := by
    rw [scan_high d k h hk hl]
    rcases he with rfl | he
    · rfl
    · cases hf : 5 - k with
      | zero => rfl
      | succ f => simp only [scan]; rw [if_neg (by omega)]
  simp [readAt, hs]
theorem read_stop (d : List UInt8) (q k : Nat) (h : High d k) (hk : k < 5) (hl : k < d.length) (hb : (d.getD k 0).toNat < 128) :
    readAt d q = if vl (d.take (k + 1)) ≤ 1000000000 ∧ (k = 0 ∨ (d.getD k 0).toNat ≠ 0) then (vl (d.take (k + 1)), q + k + 1, true) else (0, 0, false) := by
  have hs : scan d 5 0 = some k := by
    rw [scan_high d k h (by omega) (by omega)]
    obtain ⟨f, hf⟩ : ∃ f, 5 - k = f + 1 := ⟨4 - k, by omega⟩
    rw [hf]
    simp only [scan]
    rw [if_pos hl, if_pos hb]
  simp [readAt, hs]
theorem take_getD (d : List UInt8) (k : Nat) (hl : k < d.length) : d.take (k + 1) = d.take k ++ [d.getD k 0] := by
  rw [take_snoc d k hl]; simp [List.getD, List.getElem?_eq_getElem hl]
theorem vl_take (d : List UInt8) (k : Nat) (hl : k < d.length) : vl (d.take (k + 1)) = vl (d.take k) + (d.getD k 0).toNat % 128 * 128 ^ k := by
  rw [take_getD d k hl, vl_snoc, List.length_take, Nat.min_eq_left (by omega)]
theorem lastOf_snoc (l : List UInt8) (c : UInt8) : lastOf (l ++ [c]) = c := by
  induction l with
  | nil => rfl
  | cons x l ih =>
    cases l with
    | nil => rfl
    | cons y l => exact ih
theorem body_snoc (l : List UInt8) (c : UInt8) (h : ∀ x ∈ l, 128 ≤ x.toNat) (hc : c.toNat < 128) : body (l ++ [c]) := by
  induction l with
  | nil => exact hc
  | cons x l ih =>
    have := ih (fun y hy => h y (by simp [hy]))
    cases l with
    | nil => exact ⟨h x (by simp), hc⟩
    | cons y l => exact ⟨h x (by simp), this⟩
theorem high_mem (d : List UInt8) (k : Nat) (h : High d k) : ∀ x ∈ d.take k, 128 ≤ x.toNat := by
  intro x hx
  obtain ⟨j, hj, rfl⟩ := List.mem_iff_getElem.1 hx
  simp only [List.length_take] at hj
  have := h j (by omega)
  rw [List.getElem_take]
  simpa [List.getD, List.getElem?_eq_getElem (show j < d.length by omega)] using this
/-- The model's test: the varint of what was read is what was read, exactly where the last byte is not a superfluous zero. -/
theorem canon_yes (d : List UInt8) (k : Nat) (h : High d k) (hk : k < 5) (hl : k < d.length) (hb : (d.getD k 0).toNat < 128) (hz : k = 0 ∨ (d.getD k 0).toNat ≠ 0) : numB (vl (d.take (k + 1))) = d.take (k + 1) := by
  refine numF_vl 9 _ ?_ ?_ ?_
  · rw [take_getD d k hl]; exact body_snoc _ _ (high_mem d k h) hb
  · simp; omega
  · rcases hz with rfl | hz
    · left; simp; omega
    · right; rw [take_getD d k hl, lastOf_snoc]; exact hz
theorem canon_no (d : List UInt8) (k : Nat) (hl : k < d.length) (hz : ¬ (k = 0 ∨ (d.getD k 0).toNat ≠ 0)) (n : Nat) (hn : n ≤ 1000000000) : numB n ≠ d.take (k + 1) :=
  numB_ne_zero n hn _ (by simp; omega) (by rw [take_getD d k hl, lastOf_snoc]; omega)
theorem canon_high (d : List UInt8) (k : Nat) (h : High d k) (h0 : 0 < k) (hl : k ≤ d.length) (n : Nat) (hn : n ≤ 1000000000) : numB n ≠ d.take k := by
  obtain ⟨k', rfl⟩ : ∃ k', k = k' + 1 := ⟨k - 1, by omega⟩
  exact numB_ne_high n hn _ (by rw [take_getD d k' (by omega), lastOf_snoc]; exact h k' (by omega))
/-- Bounds of what is read. -/
theorem read_bounds (d : List UInt8) (q n x : Nat) (h : readAt d q = (n, x, true)) : n ≤ 1000000000 ∧ q < x ∧ x ≤ q + 5 ∧ x ≤ q + d.length := by
  unfold readAt at h
  cases hs : scan d 5 0 with
  | none => rw [hs] at h; simp at h
  | some k =>
    rw [hs] at h
    have hk : ∀ f i, scan d f i = some k → k < i + f ∧ k < d.length := by
      intro f
      induction f with
      | zero => intro i hi; simp [scan] at hi
      | succ f ih =>
        intro i hi
        simp only [scan] at hi
        split at hi
        · split at hi
          · simp at hi; omega
          · have := ih (i + 1) hi; omega
        · simp at hi
    have := hk 5 0 hs
    simp only at h
    split at h
    · simp only [Prod.mk.injEq] at h; omega
    · simp at h
theorem read_false (d : List UInt8) (q n x : Nat) (h : readAt d q = (n, x, false)) : n = 0 ∧ x = 0 := by
  unfold readAt at h
  split at h
  · simp only [Prod.mk.injEq] at h; omega
  · split at h
    · simp at h
    · simp only [Prod.mk.injEq] at h; omega
end Go.Proofs.Ytkhndofplebcaaa.C1.M

/-
  Contracts for canRead, l1Place and the program's numAt: it gives what 'M.readNum' says of the bytes at the offset.
-/
namespace Go.Proofs.Ytkhndofplebcaaa.C1
open Go.RowKit

/-- The offset at which readers may begin. -/
def Place (s : ByteArray) (q : Int) : Prop := s.size ≤ 6000 ∧ 0 ≤ q ∧ q ≤ s.size

set_option maxHeartbeats 400000 in
theorem canRead_yes (s : ByteArray) (q : Int) (w : World) (h : Place s q) :
    Calls Try.prog 99 #[.string s, .int .i64 q] w fun e w' => e = .returned (.bool true) ∧ w = w' := by
  obtain ⟨h1, h2, h3⟩ := h
  go_enter Try.func99, Try.ntmps99
  go_wp2
  go_ret
  exact ⟨rfl, rfl⟩

set_option maxHeartbeats 400000 in
theorem canRead_no (s : ByteArray) (q : Int) (w : World) (hm : s.size ≤ maxLen) (h : ¬ Place s q) :
    Calls Try.prog 99 #[.string s, .int .i64 q] w fun e w' => e = .returned (.bool false) ∧ w = w' := by
  unfold maxLen at hm
  unfold Place at h
  by_cases h1 : s.size ≤ 6000
  · by_cases h2 : 0 ≤ q
    · have h3 : decide (q ≤ (s.size : Int)) = false := by simp; omega
      clear h
      go_enter Try.func99, Try.ntmps99
      go_wp2
      go_ret
      exact ⟨rfl, rfl⟩
    · have h3 : decide (0 ≤ q) = false := by simp; omega
      clear h
      go_enter Try.func99, Try.ntmps99
      go_wp2
      go_ret
      exact ⟨rfl, rfl⟩
  · have h3 : decide ((s.size : Int) ≤ 6000) = false := by simp; omega
    clear h
    go_enter Try.func99, Try.ntmps99
    go_wp2
    go_ret
    exact ⟨rfl, rfl⟩

/-- U is 128 ^ k, with the bounds that the walk wants. -/
def Unit (k U : Nat) : Prop := U = 128 ^ k
theorem unit_step {k U : Nat} (h : Unit k U) : Unit (k + 1) (U * 128) := by unfold Unit at *; rw [h, Nat.pow_succ]
theorem unit_small {k U : Nat} (h : Unit k U) (hk : k < 5) : 1 ≤ U ∧ U ≤ 268435456 := by
  unfold Unit at h
  subst h
  have : k = 0 ∨ k = 1 ∨ k = 2 ∨ k = 3 ∨ k = 4 := by omega
  rcases this with rfl | rfl | rfl | rfl | rfl <;> simp
theorem unit_big {U : Nat} (h : Unit 5 U) : U = 34359738368 := by unfold Unit at h; omega

/-- What the loop of numAt keeps. -/
def AtRel (s : ByteArray) (q : Nat) (n u i : Value) : Prop :=
  ∃ k U : Nat, k ≤ 5 ∧ q + k ≤ s.size ∧ M.High (s.data.toList.drop q) k ∧ Unit k U ∧ n = .int .i64 (M.vl ((s.data.toList.drop q).take k) : Nat) ∧ u = .int .i64 (U : Nat) ∧ i = .int .i64 ((q + k : Nat) : Int)

/-- The byte at q + k as the walk reads it and as the lists say it. -/
theorem byte_at (s : ByteArray) (q k : Nat) (h : q + k < s.size) : (s.data.toList.drop q).getD k 0 = s[q + k] := by
  rw [List.getD, List.getElem?_drop, Array.getElem?_toList, Array.getElem?_eq_getElem h]
  rfl
theorem drop_len (s : ByteArray) (q : Nat) : (s.data.toList.drop q).length = s.size - q := by simp
theorem prod_bound (c U : Nat) (hU : U ≤ 268435456) : 0 ≤ (c : Int) % 128 * (U : Int) ∧ (c : Int) % 128 * (U : Int) ≤ 34091302912 := by
  have h1 : 0 ≤ (c : Int) % 128 := by omega
  have h2 : (c : Int) % 128 ≤ 127 := by omega
  refine ⟨Int.mul_nonneg h1 (by omega), ?_⟩
  calc (c : Int) % 128 * (U : Int) ≤ 127 * (U : Int) := Int.mul_le_mul_of_nonneg_right h2 (by omega)
    _ ≤ 34091302912 := by omega
/-- What has been read after one byte more. -/
theorem vl_more (s : ByteArray) (q k U n : Nat) (h : q + k < s.size) (hU : Unit k U) (hn : n = M.vl ((s.data.toList.drop q).take k)) :
    (n : Int) + (s[q + k].toNat : Int) % 128 * (U : Int) = (M.vl ((s.data.toList.drop q).take (k + 1)) : Nat) := by
  rw [M.vl_take _ _ (by rw [drop_len]; omega), byte_at s q k h, ← hn]
  unfold Unit at hU
  subst hU
  simp
theorem vl_more_lt (s : ByteArray) (q k U : Nat) (h : q + k ≤ s.size) (hU : Unit k U) : M.vl ((s.data.toList.drop q).take k) < U := by
  have := M.vl_lt ((s.data.toList.drop q).take k)
  rw [List.length_take, Nat.min_eq_left (by rw [drop_len]; omega)] at this
  unfold Unit at hU; rw [hU]; exact this
theorem ret_read (a : Nat × Nat × Bool) (x y : Int) (b : Bool) (h1 : (a.1 : Int) = x) (h2 : (a.2.1 : Int) = y) (h3 : a.2.2 = b) :
    Ending.returned (.tuple #[.int .i64 x, .int .i64 y, .bool b]) = Ending.returned (.tuple #[.int .i64 a.1, .int .i64 a.2.1, .bool a.2.2]) := by
  rw [h1, h2, h3]

set_option maxRecDepth 100000 in
set_option maxHeartbeats 2000000 in
theorem numAt_any (s : ByteArray) (q : Nat) (w : World) (hs : s.size ≤ 1048576) (hq : q ≤ s.size) :
    Calls Try.prog 100 #[.string s, .int .i64 (q : Int)] w fun e w' => e = .returned (.tuple #[.int .i64 (M.readNum s.data.toList q).1, .int .i64 (M.readNum s.data.toList q).2.1, .bool (M.readNum s.data.toList q).2.2]) ∧ w = w' := by
  go_enter Try.func100, Try.ntmps100
  go_wp2
  go_loop [7, 8, 9] (fun n u i => AtRel s q n u i) (fun _ _ i => s.size - (intOf i).toNat)
  case atStart => exact ⟨0, 1, by omega, by omega, fun j hj => by omega, rfl, rfl, rfl, rfl⟩
  case round =>
    obtain ⟨k, U, hk, hkl, hhi, hU, rfl, rfl, rfl⟩ := hrel
    by_cases hlt : q + k < s.size
    · by_cases hk5 : k < 5
      · obtain ⟨hu1, hu2⟩ := unit_small hU hk5
        obtain ⟨n, hn⟩ : ∃ n, n = M.vl ((s.data.toList.drop q).take k) := ⟨_, rfl⟩
        have hnU : n < U := by rw [hn]; exact vl_more_lt s q k U hkl hU
        have HT := Lib.hid (vl_more s q k U n hlt hU hn)
        have HB := Lib.hid (byte_at s q k hlt)
        obtain ⟨hp1, hp2⟩ := prod_bound s[q + k].toNat U hu2
        rw [← hn]
        clear hn
        by_cases hc : 128 ≤ s[q + k].toNat
        · go_wp2
          go_round
          case rel => exact ⟨k + 1, U * 128, by omega, by omega, hhi.step (by rw [HB.out]; exact hc), unit_step hU, val_int HT.out, by go_num, by go_num⟩
          case measure => simp [intOf]; omega
        · have hc' : (s[q + k].toNat : Int) < 128 := by omega
          have hr := M.read_stop _ q k hhi hk5 (by rw [drop_len]; omega) (by rw [HB.out]; omega)
          have HR := Lib.hid hr
          clear hr
          by_cases ht : 1000000000 < (n : Int) + (s[q + k].toNat : Int) % 128 * (U : Int)
          · go_wp2
            go_ret3
            refine ⟨?_, rfl⟩
            have hh : M.readNum s.data.toList q = (0, 0, false) := by
              have := HT.out
              exact HR.out.trans (if_neg (by omega))
            rw [hh]; rfl
          · by_cases hz : k = 0 ∨ s[q + k].toNat ≠ 0
            · have hh : M.readNum s.data.toList q = (M.vl ((s.data.toList.drop q).take (k + 1)), q + k + 1, true) := by
                have := HT.out
                exact HR.out.trans (if_pos ⟨by omega, by rw [HB.out]; exact hz⟩)
              have HH := Lib.hid hh
              clear hh
              by_cases hz1 : 0 < s[q + k].toNat
              · clear hz
                go_wp2
                go_ret3
                refine ⟨?_, rfl⟩
                rw [HH.out]
                exact ret_read (_, _, _) _ _ _ HT.out.symm (by simp) rfl
              · have hz2 : k ≤ 0 := by omega
                have h0 : (s[q + k].toNat : Int) % 128 = 0 := by omega
                have ht0 : ((M.vl ((s.data.toList.drop q).take (k + 1)) : Nat) : Int) = (n : Int) := by rw [← HT.out, h0]; simp
                have HT0 := Lib.hid ht0
                clear hz h0 ht0
                go_wp2
                go_ret3
                refine ⟨?_, rfl⟩
                rw [HH.out]
                exact ret_read (_, _, _) _ _ _ HT0.out (by simp) rfl
            · have hz1 : s[q + k].toNat ≤ 0 := by omega
              have hz2 : 0 < k := by omega
              have hh : M.readNum s.data.toList q = (0, 0, false) := HR.out.trans (if_neg (by rw [HB.out]; exact fun h => hz h.2))
              have HH := Lib.hid hh
              clear hh hz
              go_wp2
              go_ret3
              refine ⟨?_, rfl⟩
              rw [HH.out]; rfl
      · have hk6 : 5 ≤ k := by omega
        obtain rfl : k = 5 := by omega
        have hub := unit_big hU
        subst hub
        have hh : M.readNum s.data.toList q = (0, 0, false) := M.read_end _ q 5 hhi (by omega) (by rw [drop_len]; omega) (.inl rfl)
        have HH := Lib.hid hh
        clear hh
        go_wp2
        go_ret3
        refine ⟨?_, rfl⟩
        rw [HH.out]; rfl
    · have hh : M.readNum s.data.toList q = (0, 0, false) := M.read_end _ q k hhi hk (by rw [drop_len]; omega) (.inr (by rw [drop_len]; omega))
      have HH := Lib.hid hh
      clear hh
      go_wp2
      go_ret3
      refine ⟨?_, rfl⟩
      rw [HH.out]; rfl
end Go.Proofs.Ytkhndofplebcaaa.C1

/-
  Contracts for the model's reader (l1R): one byte, and a number.
-/
namespace Go.Proofs.Ytkhndofplebcaaa.C1
open Go.RowKit

/-- Block g is a reader of s at offset q, bad or not. -/
def RAt (w : World) (g : Nat) (s : ByteArray) (q : Nat) (bad : Bool) : Prop := w.heap[g]? = some (.cells #[.string s, .int .i64 (q : Int), .bool bad] 127 (0, 0))

section
variable {w w' w1 w2 : World} {g : Nat} {s : ByteArray} {q : Nat} {bad : Bool}
theorem RAt.lt (h : RAt w g s q bad) : g < w.heap.size := (Array.getElem?_eq_some_iff.1 h).1
theorem RAt.c0 (h : RAt w g s q bad) : w.cell? ⟨g, 0, none⟩ = some (.string s) := cell_of_row w g 0 _ 127 (0, 0) h
theorem RAt.c1 (h : RAt w g s q bad) : w.cell? ⟨g, 1, none⟩ = some (.int .i64 (q : Int)) := cell_of_row w g 1 _ 127 (0, 0) h
theorem RAt.c2 (h : RAt w g s q bad) : w.cell? ⟨g, 2, none⟩ = some (.bool bad) := cell_of_row w g 2 _ 127 (0, 0) h
theorem RAt.fr (h : RAt w g s q bad) (i : Nat) : w.frozen? ⟨g, i, none⟩ = false := by
  unfold RAt at h
  simp [World.frozen?, h]
theorem RAt.drewN (h : RAt w g s q bad) (n : Nat) : RAt (w.drewN n) g s q bad := h
theorem RAt.set1 (h : RAt w g s q bad) (q' : Nat) : RAt (w.setCell ⟨g, 1, none⟩ (.int .i64 (q' : Int))) g s q' bad := by
  unfold RAt at h ⊢
  simp [World.setCell, Array.getElem?_modify, h]
theorem RAt.set2 (h : RAt w g s q bad) (b : Bool) : RAt (w.setCell ⟨g, 2, none⟩ (.bool b)) g s q b := by
  unfold RAt at h ⊢
  simp [World.setCell, Array.getElem?_modify, h]
theorem RAt.below {B : Nat} (h : RAt w g s q bad) (hb : Below B w w') (hg : g < B) : RAt w' g s q bad := (hb.block g hg).trans h
theorem grown_refl (w : World) (row : Option Nat) : w.grownBy w row := ⟨rfl, rfl, rfl, Nat.le_refl _, fun _ _ _ => rfl⟩
theorem grown_trans {row : Option Nat} (h : w.grownBy w1 row) (k : w1.grownBy w2 row) : w.grownBy w2 row :=
  ⟨k.os.trans h.os, k.tape.trans h.tape, k.output.trans h.output, Nat.le_trans h.size k.size, fun i hi hr => (k.block i (Nat.lt_of_lt_of_le hi h.size) hr).trans (h.block i hi hr)⟩
theorem grown_drewN {row : Option Nat} (h : w.grownBy w1 row) (n : Nat) : w.grownBy (w1.drewN n) row := ⟨h.os, h.tape, h.output, h.size, h.block⟩
theorem grown_set {row : Option Nat} (h : w.grownBy w1 row) {p : Addr} (hp : some p.block = row) (u : Value) : w.grownBy (w1.setCell p u) row :=
  grown_trans h ⟨rfl, rfl, rfl, by simp [World.setCell], fun k hk hr => Below.heap_setCell _ _ _ _ (fun e => hr (by rw [e]; exact hp))⟩
theorem grown_below {row : Option Nat} (h : w.grownBy w1 row) (hb : Below w1.heap.size w1 w2) : w.grownBy w2 row :=
  grown_trans h ⟨hb.os, hb.tape, hb.output, hb.size, fun k hk _ => hb.block k hk⟩
theorem below_of_grown {B : Nat} (h : w.grownBy w1 (some g)) (hB : B ≤ g) (hw : B ≤ w.heap.size) : Below B w w1 :=
  ⟨h.os, h.tape, h.output, h.size, fun k hk => h.block k (by omega) (by simp; omega)⟩
end

set_option maxRecDepth 100000 in
set_option maxHeartbeats 400000 in
theorem one_yes (g : Nat) (s : ByteArray) (q : Nat) (w : World) (h : RAt w g s q false) (hs : s.size ≤ 1048576) (hq : q < s.size) :
    Calls Try.prog 96 #[.pointer (some ⟨g, 0, none⟩)] w fun e w' => e = .returned (.int .i64 (s[q].toNat : Int)) ∧ RAt w' g s (q + 1) false ∧ w.grownBy w' (some g) := by
  have hc0 := h.c0
  have hc1 := h.c1
  have hc2 := h.c2
  have hf1 := h.fr 1
  have h8 : (s[q].toNat : Int) < 256 := by have := s[q].toNat_lt; omega
  go_enter Try.func96, Try.ntmps96
  go_wp2_with fail
  go_quiet (fail)
  go_wp2_with fail
  go_quiet (fail)
  go_wp2
  go_ret
  exact ⟨rfl, ((h.drewN _).set1 (q + 1)).drewN _, grown_drewN (grown_set (grown_drewN (grown_refl _ _) _) rfl _) _⟩

set_option maxRecDepth 100000 in
set_option maxHeartbeats 400000 in
theorem one_bad (g : Nat) (s : ByteArray) (q : Nat) (bad : Bool) (w : World) (h : RAt w g s q bad) (hq : bad = true ∨ s.size ≤ q) :
    Calls Try.prog 96 #[.pointer (some ⟨g, 0, none⟩)] w fun e w' => e = .returned (.int .i64 0) ∧ RAt w' g s q true ∧ w.grownBy w' (some g) := by
  have hc0 := h.c0
  have hc1 := h.c1
  have hf2 := h.fr 2
  cases bad with
  | true =>
    have hc2 := h.c2
    clear hq
    go_enter Try.func96, Try.ntmps96
    go_wp2_with fail
    go_quiet (fail)
    go_wp2
    go_ret
    exact ⟨rfl, (h.drewN _).set2 true, grown_set (grown_drewN (grown_refl _ _) _) rfl _⟩
  | false =>
    have hc2 := h.c2
    have hq2 : s.size ≤ q := by simpa using hq
    clear hq
    go_enter Try.func96, Try.ntmps96
    go_wp2_with fail
    go_quiet (fail)
    go_wp2
    go_ret
    exact ⟨rfl, (h.drewN _).set2 true, grown_set (grown_drewN (grown_refl _ _) _) rfl _⟩
end Go.Proofs.Ytkhndofplebcaaa.C1

/-
  The contract of the model's reader for a number.
-/
namespace Go.Proofs.Ytkhndofplebcaaa.C1
open Go.RowKit

/-- What the loop of the model's num keeps. -/
def RNRel (w : World) (g : Nat) (s : ByteArray) (q : Nat) (n u i : Value) (wr : World) : Prop :=
  ∃ k U : Nat, k ≤ 5 ∧ q + k ≤ s.size ∧ M.High (s.data.toList.drop q) k ∧ Unit k U ∧ n = .int .i64 (M.vl ((s.data.toList.drop q).take k) : Nat) ∧ u = .int .i64 (U : Nat) ∧ i = .int .i64 (k : Int) ∧ RAt wr g s (q + k) false ∧ w.grownBy wr (some g)

/-- What num leaves: the number and the offset behind it, or 0 and a reader that is bad. -/
def RNPost (w : World) (g : Nat) (s : ByteArray) (q : Nat) (e : Ending) (w' : World) : Prop :=
  w.grownBy w' (some g) ∧
  (((M.readNum s.data.toList q).2.2 = true ∧ e = .returned (.int .i64 ((M.readNum s.data.toList q).1 : Nat)) ∧ RAt w' g s (M.readNum s.data.toList q).2.1 false) ∨
   ((M.readNum s.data.toList q).2.2 = false ∧ e = .returned (.int .i64 0) ∧ ∃ q', RAt w' g s q' true))

theorem l1NumB_int (x : Int) (m : Nat) (hx : x = (m : Int)) (w : World) (hm : m ≤ 1000000000) :
    Calls Try.prog 84 #[.int .i64 x] w fun e w' => e = .returned (.string ⟨(M.numB m).toArray⟩) ∧ Below w.heap.size w w' := by
  subst hx; exact l1NumB_any m w hm
theorem grown_drew {w w1 : World} {row : Option Nat} (h : w.grownBy w1 row) : w.grownBy w1.drew row := ⟨h.os, h.tape, h.output, h.size, h.block⟩
theorem cut_list (s : ByteArray) (q k x : Nat) (hx : x = q + k) : (s.extract q x).toList = (s.data.toList.drop q).take k := by
  subst hx
  rw [ByteArray.toList_eq, Lib.extract_data, show q + k - q = k from by omega]

theorem rn_bad {w w' : World} {g : Nat} {s : ByteArray} {q q' : Nat} (hh : M.readNum s.data.toList q = (0, 0, false)) (hG : w.grownBy w' (some g)) (hR : RAt w' g s q' true) : RNPost w g s q (.returned (.int .i64 0)) w' :=
  ⟨hG, .inr ⟨by rw [hh], rfl, q', hR⟩⟩
theorem rn_good {w w' : World} {g : Nat} {s : ByteArray} {q n x : Nat} {v : Int} (hh : M.readNum s.data.toList q = (n, x, true)) (hv : v = (n : Int)) (hG : w.grownBy w' (some g)) (hR : RAt w' g s x false) : RNPost w g s q (.returned (.int .i64 v)) w' :=
  ⟨hG, .inl ⟨by rw [hh], by rw [hh, hv], by rw [hh]; exact hR⟩⟩

set_option maxRecDepth 100000 in
set_option maxHeartbeats 4000000 in
theorem rnum_any (g : Nat) (s : ByteArray) (q : Nat) (w : World) (h : RAt w g s q false) (hs : s.size ≤ 1048576) (hq : q ≤ s.size) :
    Calls Try.prog 94 #[.pointer (some ⟨g, 0, none⟩)] w (RNPost w g s q) := by
  have hc1 := h.c1
  go_enter Try.func94, Try.ntmps94
  go_wp2_with fail
  go_loopw [4, 5, 6] (fun n u i wr => RNRel w g s q n u i wr) (fun _ _ i _ => 5 - (intOf i).toNat)
  case atStart => exact ⟨0, 1, by omega, by omega, fun j hj => by omega, rfl, rfl, rfl, rfl, h, grown_refl _ _⟩
  case round =>
    obtain ⟨k, U, hk, hkl, hhi, hU, rfl, rfl, rfl, hR, hG⟩ := hrel
    clear hc1
    by_cases hk5 : k < 5
    · obtain ⟨hu1, hu2⟩ := unit_small hU hk5
      by_cases hlt : q + k < s.size
      · obtain ⟨n, hn⟩ : ∃ n, n = M.vl ((s.data.toList.drop q).take k) := ⟨_, rfl⟩
        have hnU : n < U := by rw [hn]; exact vl_more_lt s q k U hkl hU
        have HT := Lib.hid (vl_more s q k U n hlt hU hn)
        have HB := Lib.hid (byte_at s q k hlt)
        obtain ⟨hp1, hp2⟩ := prod_bound s[q + k].toNat U hu2
        rw [← hn]
        clear hn
        obtain ⟨c, hcd⟩ : ∃ c : UInt8, c = s[q + k] := ⟨_, rfl⟩
        have hone := one_yes g s (q + k) wr hR hs hlt
        rw [← hcd] at hp1 hp2 hone
        have HC := Lib.hid hcd
        have HO := Lib.hid hone
        clear hcd hone
        by_cases hc : 128 ≤ c.toNat
        · go_wp2_with fail
          refine HO.out.mono ?_
          rintro e w1 ⟨rfl, hR1, hG1⟩
          go_wp2
          go_roundw
          case rel => exact ⟨k + 1, U * 128, by omega, by omega, hhi.step (by rw [HB.out, ← HC.out]; exact hc), unit_step hU, val_int (by rw [← HT.out, HC.out]), by go_num, by go_num, hR1, grown_trans hG hG1⟩
          case measure => simp [intOf]; omega
        · have hr := M.read_stop _ q k hhi hk5 (by rw [drop_len]; omega) (by rw [HB.out, ← HC.out]; omega)
          have HR := Lib.hid hr
          have hT2 : (n : Int) + (c.toNat : Int) % 128 * (U : Int) = (M.vl ((s.data.toList.drop q).take (k + 1)) : Nat) := by rw [← HT.out, HC.out]
          have HT2 := Lib.hid hT2
          have hc' : (c.toNat : Int) < 128 := by omega
          have hcz := M.canon_yes _ k hhi hk5 (by rw [drop_len]; omega) (by rw [HB.out, ← HC.out]; omega)
          have hcn := M.canon_no (s.data.toList.drop q) k (by rw [drop_len]; omega)
          have HCZ := Lib.hid hcz
          have HCN := Lib.hid hcn
          clear hr hT2 hc hcz hcn
          by_cases ht : 1000000000 < (n : Int) + (c.toNat : Int) % 128 * (U : Int)
          · go_wp2_with fail
            refine HO.out.mono ?_
            rintro e w1 ⟨rfl, hR1, hG1⟩
            have d0 := hR1.c0
            have d1 := hR1.c1
            have d2 := hR1.c2
            have f2 := hR1.fr 2
            go_wp2_with fail
            go_quiet (fail)
            go_wp2
            go_ret
            have hh : M.readNum s.data.toList q = (0, 0, false) := by
              have := HT2.out
              exact HR.out.trans (if_neg (by omega))
            exact rn_bad hh (grown_set (grown_drewN (grown_trans hG hG1) _) rfl _) ((hR1.drewN _).set2 true)
          · have hle : (n : Int) + (c.toNat : Int) % 128 * (U : Int) ≤ 1000000000 := by omega
            have hd : decide (1000000000 < (n : Int) + (c.toNat : Int) % 128 * (U : Int)) = false := by simp; omega
            obtain ⟨x, hx⟩ : ∃ x, x = q + k + 1 := ⟨_, rfl⟩
            have hx1 : (q : Int) ≤ (x : Int) := by omega
            have hx2 : (x : Int) ≤ (s.size : Int) := by omega
            have hx3 : (0 : Int) ≤ (q : Int) := by omega
            have HX := Lib.hid (cut_list s q (k + 1) x hx)
            rw [← hx] at HO HR
            clear hx ht
            by_cases hz : k = 0 ∨ ((s.data.toList.drop q).getD k 0).toNat ≠ 0
            · have hh : M.readNum s.data.toList q = (M.vl ((s.data.toList.drop q).take (k + 1)), x, true) := by
                have := HT2.out
                exact HR.out.trans (if_pos ⟨by omega, hz⟩)
              have HH := Lib.hid hh
              have hE : (M.numB (M.vl (List.take (k + 1) (List.drop q s.data.toList))) == (s.extract q x).toList) = true := by
                rw [HX.out, HCZ.out hz]; simp
              clear hz hh
              go_wp2_with fail
              refine HO.out.mono ?_
              rintro e w1 ⟨rfl, hR1, hG1⟩
              have d0 := hR1.c0
              have d1 := hR1.c1
              have d2 := hR1.c2
              have f2 := hR1.fr 2
              have hgl := hR1.lt
              go_wp2_with fail
              go_region_held3 (fun w' => w'.cell? ⟨g, 0, none⟩ = some (.string s) ∧ w'.cell? ⟨g, 1, none⟩ = some (.int .i64 (x : Int)) ∧ w'.cell? ⟨g, 2, none⟩ = some (.bool false))
                (first | go_keep | (go_split_ands; exact ⟨(hb2.cell (p := ⟨g, 0, none⟩) hgl).trans d0, (hb2.cell (p := ⟨g, 1, none⟩) hgl).trans d1, (hb2.cell (p := ⟨g, 2, none⟩) hgl).trans d2⟩))
                ((go_at_call 84; refine (l1NumB_int _ _ HT2.out _ (by have := HT2.out; omega)).mono ?_; rintro e w2 ⟨rfl, hb2⟩))
              go_wp2
              go_ret
              exact rn_good HH.out HT2.out (grown_below (grown_drew (grown_trans hG hG1)) hb2) (RAt.below (w := w1.drew) hR1 hb2 hgl)
            · have hh : M.readNum s.data.toList q = (0, 0, false) := HR.out.trans (if_neg (fun h => hz h.2))
              have HH := Lib.hid hh
              have hE : (M.numB (M.vl (List.take (k + 1) (List.drop q s.data.toList))) == (s.extract q x).toList) = false := by
                rw [HX.out]; simp; exact HCN.out hz _ (by have := HT2.out; omega)
              clear hz hh
              go_wp2_with fail
              refine HO.out.mono ?_
              rintro e w1 ⟨rfl, hR1, hG1⟩
              have d0 := hR1.c0
              have d1 := hR1.c1
              have d2 := hR1.c2
              have f2 := hR1.fr 2
              have hgl := hR1.lt
              go_wp2_with fail
              go_region_held3 (fun w' => w'.cell? ⟨g, 0, none⟩ = some (.string s) ∧ w'.cell? ⟨g, 1, none⟩ = some (.int .i64 (x : Int)) ∧ w'.cell? ⟨g, 2, none⟩ = some (.bool false))
                (first | go_keep | (go_split_ands; exact ⟨(hb2.cell (p := ⟨g, 0, none⟩) hgl).trans d0, (hb2.cell (p := ⟨g, 1, none⟩) hgl).trans d1, (hb2.cell (p := ⟨g, 2, none⟩) hgl).trans d2⟩))
                ((go_at_call 84; refine (l1NumB_int _ _ HT2.out _ (by have := HT2.out; omega)).mono ?_; rintro e w2 ⟨rfl, hb2⟩))
              have hR2 := RAt.below (w := w1.drew) hR1 hb2 hgl
              have f3 := hR2.fr 2
              go_wp2
              go_ret
              exact rn_bad HH.out (grown_set (grown_below (grown_drew (grown_trans hG hG1)) hb2) rfl _) (hR2.set2 true)
      · have hh : M.readNum s.data.toList q = (0, 0, false) := M.read_end _ q k hhi hk (by rw [drop_len]; omega) (.inr (by rw [drop_len]; omega))
        have HH := Lib.hid hh
        have hone := one_bad g s (q + k) false wr hR (.inr (by omega))
        have HO := Lib.hid hone
        clear hh hone
        go_wp2_with fail
        refine HO.out.mono ?_
        rintro e w1 ⟨rfl, hR1, hG1⟩
        have d0 := hR1.c0
        have d1 := hR1.c1
        have d2 := hR1.c2
        have f2 := hR1.fr 2
        go_wp2_with fail
        go_quiet (fail)
        go_wp2
        go_ret
        exact rn_bad HH.out (grown_set (grown_drewN (grown_trans hG hG1) _) rfl _) ((hR1.drewN _).set2 true)
    · have hk6 : 5 ≤ k := by omega
      obtain rfl : k = 5 := by omega
      have hh : M.readNum s.data.toList q = (0, 0, false) := M.read_end _ q 5 hhi (by omega) (by rw [drop_len]; omega) (.inl rfl)
      have HH := Lib.hid hh
      have HCH := Lib.hid (M.canon_high (s.data.toList.drop q) 5 hhi (by omega) (by rw [drop_len]; omega))
      obtain ⟨n, hn⟩ : ∃ n, n = M.vl ((s.data.toList.drop q).take 5) := ⟨_, rfl⟩
      rw [← hn]
      clear hh hn
      by_cases ht : 1000000000 < n
      · have d0 := hR.c0
        have d1 := hR.c1
        have d2 := hR.c2
        have f2 := hR.fr 2
        have hd : decide (1000000000 < (n : Int)) = true := by simp; omega
        go_wp2_with fail
        go_quiet (fail)
        go_wp2
        go_ret
        exact rn_bad HH.out (grown_set (grown_drewN hG _) rfl _) ((hR.drewN _).set2 true)
      · obtain ⟨x, hx⟩ : ∃ x, x = q + 5 := ⟨_, rfl⟩
        have hx1 : (q : Int) ≤ (x : Int) := by omega
        have hx2 : (x : Int) ≤ (s.size : Int) := by omega
        have hx3 : (0 : Int) ≤ (q : Int) := by omega
        have HX := Lib.hid (cut_list s q 5 x hx)
        rw [← hx] at hR
        have hd : decide (1000000000 < (n : Int)) = false := by simp; omega
        have hle : n ≤ 1000000000 := by omega
        have hE : (M.numB n == (s.extract q x).toList) = false := by
          rw [HX.out]; simp; exact HCH.out n hle
        have d0 := hR.c0
        have d1 := hR.c1
        have d2 := hR.c2
        have f2 := hR.fr 2
        have hgl := hR.lt
        clear hx ht
        go_wp2_with fail
        go_region_held3 (fun w' => w'.cell? ⟨g, 0, none⟩ = some (.string s) ∧ w'.cell? ⟨g, 1, none⟩ = some (.int .i64 (x : Int)) ∧ w'.cell? ⟨g, 2, none⟩ = some (.bool false))
          (first | go_keep | (go_split_ands; exact ⟨(hb2.cell (p := ⟨g, 0, none⟩) hgl).trans d0, (hb2.cell (p := ⟨g, 1, none⟩) hgl).trans d1, (hb2.cell (p := ⟨g, 2, none⟩) hgl).trans d2⟩))
          ((go_at_call 84; refine (l1NumB_any n _ (by omega)).mono ?_; rintro e w2 ⟨rfl, hb2⟩))
        have hR2 := RAt.below (w := wr.drew) hR hb2 hgl
        have f3 := hR2.fr 2
        go_wp2
        go_ret
        exact rn_bad HH.out (grown_set (grown_below (grown_drew hG) hb2) rfl _) (hR2.set2 true)
end Go.Proofs.Ytkhndofplebcaaa.C1

/-
  Contracts for ReadNum of program and model, and the walk of the law FnExactReadNum.
-/
namespace Go.Proofs.Ytkhndofplebcaaa.C1
open Go.RowKit

theorem rat_new (w : World) (s : ByteArray) (q : Nat) : RAt (w.alloc (.cells #[.string s, .int .i64 (q : Int), .bool false] 127)) w.heap.size s q false := heap_alloc_new w _
theorem read_zero (l : List UInt8) (q : Nat) (h : (M.readNum l q).2.2 = false) : M.readNum l q = (0, 0, false) := by
  rcases hr : M.readNum l q with ⟨a, b, c⟩
  rw [hr] at h; simp only at h
  subst h
  obtain ⟨rfl, rfl⟩ := M.read_false _ _ _ _ hr
  rfl

/-- What ReadNum hands back. -/
def NumTuple (r : Nat × Nat × Bool) : Ending := .returned (.tuple #[.int .i64 (r.1 : Int), .int .i64 (r.2.1 : Int), .bool r.2.2])

set_option maxHeartbeats 400000 in
theorem implReadNum_yes (s : ByteArray) (q : Nat) (w : World) (h : Place s q) :
    Calls Try.prog 46 #[.string s, .int .i64 (q : Int)] w fun e w' => e = NumTuple (M.readNum s.data.toList q) ∧ w = w' := by
  obtain ⟨r, hr⟩ : ∃ r, r = M.readNum s.data.toList q := ⟨_, rfl⟩
  have hn := numAt_any s q w (Nat.le_trans h.1 (by decide)) (by have := h.2.2; omega)
  rw [← hr] at hn ⊢
  have HN := Lib.hid hn
  have HP := Lib.hid h
  clear hn h hr
  go_enter Try.func46, Try.ntmps46
  go_wp2_with fail
  refine (canRead_yes s q _ HP.out).mono ?_
  rintro e w' ⟨rfl, rfl⟩
  go_wp2_with fail
  refine HN.out.mono ?_
  rintro e w' ⟨rfl, rfl⟩
  go_wp2
  go_ret3
  exact ⟨rfl, rfl⟩

set_option maxHeartbeats 400000 in
theorem implReadNum_no (s : ByteArray) (q : Int) (w : World) (hm : s.size ≤ maxLen) (h : ¬ Place s q) :
    Calls Try.prog 46 #[.string s, .int .i64 q] w fun e w' => e = .returned (.tuple #[.int .i64 0, .int .i64 0, .bool false]) ∧ w = w' := by
  have H := Lib.hid h
  clear h
  go_enter Try.func46, Try.ntmps46
  go_wp2_with fail
  refine (canRead_no s q _ hm H.out).mono ?_
  rintro e w' ⟨rfl, rfl⟩
  go_wp2
  go_ret3
  exact ⟨rfl, rfl⟩

end Go.Proofs.Ytkhndofplebcaaa.C1

/-
  Contracts for the readers of a text (the program's textAt, the model's text) and the walk of the law FnExactReadText.
-/
namespace Go.Proofs.Ytkhndofplebcaaa.C1
open Go.RowKit

/-- What a reader of a text at offset q hands back: the text, the offset behind it, whether there is one. -/
def readText (s : ByteArray) (q : Nat) : ByteArray × Nat × Bool :=
  if (M.readNum s.data.toList q).2.2 = true ∧ (M.readNum s.data.toList q).1 ≤ 60 ∧ (M.readNum s.data.toList q).2.1 + (M.readNum s.data.toList q).1 ≤ s.size then
    (s.extract (M.readNum s.data.toList q).2.1 ((M.readNum s.data.toList q).2.1 + (M.readNum s.data.toList q).1), (M.readNum s.data.toList q).2.1 + (M.readNum s.data.toList q).1, true)
  else (⟨#[]⟩, 0, false)

theorem readText_no {s : ByteArray} {q : Nat} (h : ¬ ((M.readNum s.data.toList q).2.2 = true ∧ (M.readNum s.data.toList q).1 ≤ 60 ∧ (M.readNum s.data.toList q).2.1 + (M.readNum s.data.toList q).1 ≤ s.size)) : readText s q = (⟨#[]⟩, 0, false) := if_neg h
theorem readText_yes {s : ByteArray} {q n x : Nat} (h : M.readNum s.data.toList q = (n, x, true)) (h1 : n ≤ 60) (h2 : x + n ≤ s.size) : readText s q = (s.extract x (x + n), x + n, true) := by
  unfold readText; rw [h]; exact if_pos ⟨rfl, h1, h2⟩
theorem readText_bounds {s t : ByteArray} {q y : Nat} (h : readText s q = (t, y, true)) : q < y ∧ y ≤ s.size ∧ t.size ≤ 60 := by
  unfold readText at h
  split at h
  · rename_i hc
    rcases hr : M.readNum s.data.toList q with ⟨n, x, ok⟩
    rw [hr] at hc h
    obtain ⟨hok, h1, h2⟩ := hc
    simp only at hok h1 h2 h
    subst hok
    have hb := M.read_bounds _ q n x hr
    simp only [Prod.mk.injEq] at h
    obtain ⟨rfl, rfl, _⟩ := h
    refine ⟨by omega, h2, ?_⟩
    rw [ByteArray.size_extract]; omega
  · simp at h

set_option maxHeartbeats 400000 in
theorem clone_any (s : ByteArray) (w : World) (hs : s.size ≤ 1048576) :
    Calls Try.prog 179 #[.string s] w fun e w' => e = .returned (.string s) ∧ Below w.heap.size w w' := by
  go_enter Try.func179, Try.ntmps179
  go_wp2_with fail
  refine (Try.stringslite_Clone s _ (by omega)).mono ?_
  rintro e w' ⟨rfl, hb⟩
  go_wp2
  go_ret
  exact ⟨rfl, hb⟩

/-- What ReadText hands back. -/
def TextTuple (r : ByteArray × Nat × Bool) : Ending := .returned (.tuple #[.string r.1, .int .i64 (r.2.1 : Int), .bool r.2.2])

set_option maxRecDepth 100000 in
set_option maxHeartbeats 1000000 in
theorem textAt_any (s : ByteArray) (q : Nat) (w : World) (hs : s.size ≤ 6000) (hq : q ≤ s.size) :
    Calls Try.prog 170 #[.string s, .int .i64 (q : Int)] w fun e w' => e = TextTuple (readText s q) ∧ Below w.heap.size w w' := by
  have hn := numAt_any s q w (Nat.le_trans hs (by decide)) hq
  rcases hr : M.readNum s.data.toList q with ⟨n, x, ok⟩
  rw [hr] at hn
  have HN := Lib.hid hn
  have HR := Lib.hid hr
  clear hn hr
  cases ok with
  | false =>
    have hz := readText_no (s := s) (q := q) (by rw [HR.out]; simp)
    have HZ := Lib.hid hz
    obtain ⟨rfl, rfl⟩ := M.read_false _ _ _ _ HR.out
    clear hz
    go_enter Try.func170, Try.ntmps170
    go_wp2_with fail
    refine HN.out.mono ?_
    rintro e w' ⟨rfl, rfl⟩
    go_wp2
    go_ret3
    exact ⟨by rw [HZ.out]; rfl, Below.refl _ _⟩
  | true =>
    obtain ⟨hb1, hb2, hb3, hb4⟩ := M.read_bounds _ q n x HR.out
    rw [drop_len] at hb4
    by_cases h1 : 60 < n
    · have hz := readText_no (s := s) (q := q) (by rw [HR.out]; simp; omega)
      have HZ := Lib.hid hz
      clear hz
      go_enter Try.func170, Try.ntmps170
      go_wp2_with fail
      refine HN.out.mono ?_
      rintro e w' ⟨rfl, rfl⟩
      go_wp2
      go_ret3
      exact ⟨by rw [HZ.out]; rfl, Below.refl _ _⟩
    · by_cases h2 : s.size < x + n
      · have hz := readText_no (s := s) (q := q) (by rw [HR.out]; simp; omega)
        have HZ := Lib.hid hz
        have h3 : (s.size : Int) - (x : Int) < (n : Int) := by omega
        clear hz
        go_enter Try.func170, Try.ntmps170
        go_wp2_with fail
        refine HN.out.mono ?_
        rintro e w' ⟨rfl, rfl⟩
        go_wp2
        go_ret3
        exact ⟨by rw [HZ.out]; rfl, Below.refl _ _⟩
      · have hz := readText_yes HR.out (by omega) (by omega)
        have HZ := Lib.hid hz
        have h3 : (n : Int) ≤ (s.size : Int) - (x : Int) := by omega
        have hx0 : (0 : Int) ≤ (x : Int) := by omega
        have hx1 : (x : Int) ≤ (x : Int) + (n : Int) := by omega
        have hx2 : (x : Int) + (n : Int) ≤ (s.size : Int) := by omega
        clear hz
        go_enter Try.func170, Try.ntmps170
        go_wp2_with fail
        refine HN.out.mono ?_
        rintro e w' ⟨rfl, rfl⟩
        go_wp2_with fail
        refine (clone_any (s.extract x (x + n)) _ (by rw [ByteArray.size_extract]; omega)).mono ?_
        rintro e w' ⟨rfl, hbel⟩
        go_wp2
        go_ret3
        exact ⟨by rw [HZ.out]; rfl, hbel⟩

/-- What text leaves. -/
def RTPost (w : World) (g : Nat) (s : ByteArray) (q : Nat) (e : Ending) (w' : World) : Prop :=
  w.grownBy w' (some g) ∧
  (((readText s q).2.2 = true ∧ e = .returned (.string (readText s q).1) ∧ RAt w' g s (readText s q).2.1 false) ∨
   ((readText s q).2.2 = false ∧ e = .returned (.string ⟨#[]⟩) ∧ ∃ q', RAt w' g s q' true))
theorem rt_bad {w w' : World} {g : Nat} {s : ByteArray} {q q' : Nat} (hh : readText s q = (⟨#[]⟩, 0, false)) (hG : w.grownBy w' (some g)) (hR : RAt w' g s q' true) : RTPost w g s q (.returned (.string ⟨#[]⟩)) w' :=
  ⟨hG, .inr ⟨by rw [hh], rfl, q', hR⟩⟩
theorem rt_good {w w' : World} {g : Nat} {s t : ByteArray} {q y : Nat} (hh : readText s q = (t, y, true)) (hG : w.grownBy w' (some g)) (hR : RAt w' g s y false) : RTPost w g s q (.returned (.string t)) w' :=
  ⟨hG, .inl ⟨by rw [hh], by rw [hh], by rw [hh]; exact hR⟩⟩

set_option maxRecDepth 100000 in
set_option maxHeartbeats 2000000 in
theorem rtext_any (g : Nat) (s : ByteArray) (q : Nat) (w : World) (h : RAt w g s q false) (hs : s.size ≤ 6000) (hq : q ≤ s.size) :
    Calls Try.prog 98 #[.pointer (some ⟨g, 0, none⟩)] w (RTPost w g s q) := by
  have HN := Lib.hid (rnum_any g s q w h (Nat.le_trans hs (by decide)) hq)
  go_enter Try.func98, Try.ntmps98
  go_wp2_with fail
  refine HN.out.mono ?_
  rintro e w1 ⟨hG, hres⟩
  rcases hr : M.readNum s.data.toList q with ⟨n, x, ok⟩
  have HR := Lib.hid hr
  rw [hr] at hres
  clear hr
  rcases hres with ⟨hok, rfl, hR⟩ | ⟨hok, rfl, q', hR⟩
  · simp only at hok hR
    subst hok
    obtain ⟨hb1, hb2, hb3, hb4⟩ := M.read_bounds _ q n x HR.out
    rw [drop_len] at hb4
    have d0 := hR.c0
    have d1 := hR.c1
    have d2 := hR.c2
    have f1 := hR.fr 1
    have f2 := hR.fr 2
    by_cases h1 : 60 < n
    · have HZ := Lib.hid (readText_no (s := s) (q := q) (by rw [HR.out]; simp; omega))
      have hd : decide (60 < (n : Int)) = true := by simp; omega
      go_wp2_with fail
      go_quiet (fail)
      go_wp2
      go_ret
      exact rt_bad HZ.out (grown_set (grown_drewN hG _) rfl _) ((hR.drewN _).set2 true)
    · have hd : decide (60 < (n : Int)) = false := by simp; omega
      by_cases h2 : s.size < x + n
      · have HZ := Lib.hid (readText_no (s := s) (q := q) (by rw [HR.out]; simp; omega))
        have hd2 : decide ((s.size : Int) < (x : Int) + (n : Int)) = true := by simp; omega
        go_wp2_with fail
        go_quiet (fail)
        go_wp2
        go_ret
        exact rt_bad HZ.out (grown_set (grown_drewN hG _) rfl _) ((hR.drewN _).set2 true)
      · have HZ := Lib.hid (readText_yes HR.out (by omega) (by omega))
        have hd2 : decide ((s.size : Int) < (x : Int) + (n : Int)) = false := by simp; omega
        have hx0 : (0 : Int) ≤ (x : Int) := by omega
        have hx1 : (x : Int) ≤ (x : Int) + (n : Int) := by omega
        have hx2 : (x : Int) + (n : Int) ≤ (s.size : Int) := by omega
        go_wp2_with fail
        go_quiet (fail)
        go_wp2_with fail
        go_quiet (fail)
        go_wp2
        go_ret
        exact rt_good HZ.out (grown_drewN (grown_set (grown_drewN hG _) rfl _) _) (((hR.drewN _).set1 (x + n)).drewN _)
  · simp only at hok
    subst hok
    obtain ⟨rfl, rfl⟩ := M.read_false _ _ _ _ HR.out
    have HZ := Lib.hid (readText_no (s := s) (q := q) (by rw [HR.out]; simp))
    have d0 := hR.c0
    have d1 := hR.c1
    have d2 := hR.c2
    have f2 := hR.fr 2
    go_wp2_with fail
    go_quiet (fail)
    go_wp2
    go_ret
    exact rt_bad HZ.out (grown_set (grown_drewN hG _) rfl _) ((hR.drewN _).set2 true)

set_option maxHeartbeats 400000 in
theorem implReadText_yes (s : ByteArray) (q : Nat) (w : World) (h : Place s q) :
    Calls Try.prog 172 #[.string s, .int .i64 (q : Int)] w fun e w' => e = TextTuple (readText s q) ∧ Below w.heap.size w w' := by
  obtain ⟨r, hr⟩ : ∃ r, r = readText s q := ⟨_, rfl⟩
  have hn := textAt_any s q w h.1 (by have := h.2.2; omega)
  rw [← hr] at hn ⊢
  have HN := Lib.hid hn
  have HP := Lib.hid h
  clear hn h hr
  go_enter Try.func172, Try.ntmps172
  go_wp2_with fail
  refine (canRead_yes s q _ HP.out).mono ?_
  rintro e w' ⟨rfl, rfl⟩
  go_wp2_with fail
  refine HN.out.mono ?_
  rintro e w' ⟨rfl, hb⟩
  unfold TextTuple
  go_wp2
  go_ret3
  exact ⟨rfl, hb⟩

set_option maxHeartbeats 400000 in
theorem implReadText_no (s : ByteArray) (q : Int) (w : World) (hm : s.size ≤ maxLen) (h : ¬ Place s q) :
    Calls Try.prog 172 #[.string s, .int .i64 q] w fun e w' => e = .returned (.tuple #[.string ⟨#[]⟩, .int .i64 0, .bool false]) ∧ w = w' := by
  have H := Lib.hid h
  clear h
  go_enter Try.func172, Try.ntmps172
  go_wp2_with fail
  refine (canRead_no s q _ hm H.out).mono ?_
  rintro e w' ⟨rfl, rfl⟩
  go_wp2
  go_ret3
  exact ⟨rfl, rfl⟩

theorem readText_zero (s : ByteArray) (q : Nat) (h : (readText s q).2.2 = false) : readText s q = (⟨#[]⟩, 0, false) := by
  unfold readText at h ⊢
  split
  · rename_i hc; rw [if_pos hc] at h; simp at h
  · rfl

end Go.Proofs.Ytkhndofplebcaaa.C1

/-
  Contracts for the laws' helpers on slices of strings: szStringS, toStringS, eqStringS.
-/
namespace Go.Proofs.Ytkhndofplebcaaa.C1
open Go.RowKit

/-- A slice of strings that reads as the list xs: empty, or cells at an address. -/
def StrsAt (w : World) (A : Option Addr) (xs : List ByteArray) : Prop :=
  xs = [] ∨ ∃ b off, A = some ⟨b, off, none⟩ ∧ b < w.heap.size ∧ ∀ k (h : k < xs.length), w.cell? ⟨b, off + k, none⟩ = some (.string xs[k])

theorem StrsAt.below {w w' : World} {A : Option Addr} {xs : List ByteArray} (h : StrsAt w A xs) (hb : Below w.heap.size w w') : StrsAt w' A xs := by
  rcases h with h | ⟨b, off, hA, hlt, hc⟩
  · exact .inl h
  · exact .inr ⟨b, off, hA, Nat.lt_of_lt_of_le hlt hb.size, fun k hk => (hb.cell (p := ⟨b, off + k, none⟩) hlt).trans (hc k hk)⟩
theorem StrsAt.drewN {w : World} {A : Option Addr} {xs : List ByteArray} (h : StrsAt w A xs) (n : Nat) : StrsAt (w.drewN n) A xs := h

/-- What szStringS hands back: a number, and if it is not negative, few and short strings. -/
def SzPost (xs : List ByteArray) (w : World) (e : Ending) (w' : World) : Prop :=
  ∃ r : Int, e = .returned (.int .i64 r) ∧ w = w' ∧ r ≤ 1048576 ∧ (0 ≤ r → xs.length ≤ 1048576 ∧ ∀ k (h : k < xs.length), xs[k].size ≤ 1048576)

set_option maxRecDepth 100000 in
set_option maxHeartbeats 1000000 in
theorem sz_any (A : Option Addr) (n c : Nat) (xs : List ByteArray) (w : World) (hn : xs.length = n) (h : StrsAt w A xs) (hl : n ≤ maxLen) (hx : ∀ k (h : k < xs.length), xs[k].size ≤ maxLen) :
    Calls Try.prog 55 #[.slice A n c, .int .i64 1048576] w (SzPost xs w) := by
  subst hn
  unfold maxLen at hl
  by_cases hlong : 1048576 < xs.length
  · clear h hx
    go_enter Try.func55, Try.ntmps55
    go_wp2
    go_ret
    exact ⟨_, rfl, rfl, by omega, fun h => by omega⟩
  · have HX := Lib.hid hx
    clear hx
    rcases h with rfl | ⟨b, off, rfl, hbs, hc⟩
    · go_enter Try.func55, Try.ntmps55
      go_wp2
      refine wp_loop_rounds 1 ?_
      rw [rounds_succ]
      go_wp2
      go_ret
      exact ⟨_, rfl, rfl, by omega, fun _ => ⟨by simp, fun k hk => by simp at hk⟩⟩
    · have HC := Lib.hid hc
      clear hc
      go_enter Try.func55, Try.ntmps55
      go_wp2
      go_loop [1, 5] (fun r i => ∃ (k : Nat) (q : Int), k ≤ xs.length ∧ i = .int .i64 k ∧ r = .int .i64 q ∧ 0 ≤ q ∧ q ≤ 1048576 ∧ Hid (∀ j (h : j < xs.length), j < k → xs[j].size ≤ 1048576)) (fun _ i => xs.length - (intOf i).toNat)
      case atStart => exact ⟨0, _, by omega, rfl, rfl, by omega, by omega, fun j _ hj => by omega⟩
      case round =>
        obtain ⟨k, q, hk, rfl, rfl, hq0, hq1, HJ⟩ := hrel
        by_cases hlt : k < xs.length
        · have hck := HC.out k hlt
          have hxk := HX.out k hlt
          unfold maxLen at hxk
          by_cases hneg : q < (xs[k].size : Int)
          · go_wp2
            go_ret
            exact ⟨_, rfl, rfl, by omega, fun h => by omega⟩
          · have hnn : (xs[k].size : Int) ≤ q := by omega
            clear hneg
            go_wp2
            go_round
            case rel =>
              refine ⟨k + 1, q - (xs[k].size : Int), by omega, by go_num, rfl, by omega, by omega, fun j hj hjk => ?_⟩
              rcases Nat.lt_or_ge j k with h1 | h1
              · exact HJ.out j hj h1
              · have : j = k := by omega
                subst this; omega
            case measure => simp [intOf]; omega
        · go_wp2
          go_ret
          exact ⟨_, rfl, rfl, hq1, fun _ => ⟨by omega, fun j hj => HJ.out j hj (by omega)⟩⟩

/-- A block that a copy of n strings fills: the first k are there. -/
def Filling (w : World) (g n : Nat) (xs : List ByteArray) (k : Nat) : Prop :=
  ∃ cur : Array Value, w.heap[g]? = some (.cells cur 9 (0, 0)) ∧ cur.size = n ∧ ∀ j (h : j < xs.length), j < k → cur[j]? = some (.string xs[j])
theorem Filling.cell {w : World} {g n k : Nat} {xs : List ByteArray} (h : Filling w g n xs k) (j : Nat) (hj : j < n) : ∃ v, w.cell? ⟨g, j, none⟩ = some v := by
  obtain ⟨cur, hh, hs, _⟩ := h
  exact ⟨cur[j], by rw [cell_of_row w g j cur 9 (0, 0) hh]; exact Array.getElem?_eq_getElem (by omega)⟩
theorem Filling.free {w : World} {g n k : Nat} {xs : List ByteArray} (h : Filling w g n xs k) (j : Nat) : w.frozen? ⟨g, j, none⟩ = false := by
  obtain ⟨cur, hh, _, _⟩ := h
  simp [World.frozen?, hh]
theorem Filling.store {w : World} {g n k : Nat} {xs : List ByteArray} (h : Filling w g n xs k) (hk : k < xs.length) (hn : k < n) : Filling (w.setCell ⟨g, k, none⟩ (.string xs[k])) g n xs (k + 1) := by
  obtain ⟨cur, hh, hs, hc⟩ := h
  refine ⟨cur.setIfInBounds k (.string xs[k]), ?_, by simp [hs], fun j hj hjk => ?_⟩
  · simp [World.setCell, Array.getElem?_modify, hh]
  · rcases Nat.lt_or_ge j k with h1 | h1
    · rw [Array.getElem?_setIfInBounds_ne (by omega)]
      exact hc j hj h1
    · have : j = k := by omega
      subst this
      simp [hs, hn]
theorem Filling.strs {w : World} {g n : Nat} {xs : List ByteArray} (h : Filling w g n xs xs.length) : StrsAt w (some ⟨g, 0, none⟩) xs := by
  obtain ⟨cur, hh, hs, hc⟩ := h
  refine .inr ⟨g, 0, rfl, (Array.getElem?_eq_some_iff.1 hh).1, fun k hk => ?_⟩
  rw [cell_of_row w g (0 + k) cur 9 (0, 0) hh, Nat.zero_add]
  exact hc k hk hk

theorem info9 : (Try.prog.info? 9).map (fun i => (i.zero, i.size, i.bytes)) = some (some (.string ⟨#[]⟩), 1, 16) := by kernel_rfl

/-- What toStringS hands back: a new slice that reads as the same list. -/
def ToPost (xs : List ByteArray) (w : World) (e : Ending) (w' : World) : Prop :=
  ∃ g, e = .returned (.slice (some ⟨g, 0, none⟩) xs.length xs.length) ∧ g = w.heap.size ∧ Filling w' g xs.length xs xs.length ∧ Below w.heap.size w w'

theorem filling_made {w w' : World} {n : Nat} {xs : List ByteArray} (h : w'.ownsRow w.heap.size 9 1 (.slice (some ⟨w.heap.size, 0, none⟩) n n) n (madeCells (Value.string ⟨#[]⟩).cells (n * 1)).toList) : Filling w' w.heap.size n xs 0 := by
  rcases h.2 with ⟨h', _⟩ | ⟨g, cap, cur, h', _, hh, _, _, hs, _⟩
  · simp at h'
  · simp only [Value.slice.injEq, Option.some.injEq, Addr.mk.injEq, and_true, true_and] at h'
    obtain ⟨rfl, rfl⟩ := h'
    exact ⟨cur, hh, by omega, fun j _ hj => by omega⟩

set_option maxRecDepth 100000 in
set_option maxHeartbeats 1000000 in
theorem to_any (A : Option Addr) (n c : Nat) (xs : List ByteArray) (w : World) (hn : xs.length = n) (h : StrsAt w A xs) (hl : n ≤ 1048576) :
    Calls Try.prog 62 #[.slice A n c] w (ToPost xs w) := by
  obtain ⟨i0, hi, hz0, hz1, hz2⟩ := info_parts info9
  have HN := Lib.hid hn
  have hge := Nat.le_of_eq hn
  have hle := Nat.le_of_eq hn.symm
  have HS := Lib.hid h
  clear hn h
  go_enter Try.func62, Try.ntmps62
  go_wp2_with (at_make; refine wpList_make_full _ rfl (.tmp 6) (.tmp 6) 22 rfl w.heap.size 9 i0 _ 1 Try.underlying22 hi hz0 hz1 .i64 .i64 _ _ n rfl rfl rfl rfl (by rw [hz2]; omega) (by unfold maxLen; omega) (Nat.le_refl _) ?_; intro w1 hown hgr)
  have hb1 : Below w.heap.size w w1 := (Below.refl _ _).grown hgr (Nat.le_refl _) (by simp)
  have hf0 := filling_made (xs := xs) hown
  clear hown hgr
  go_loopw [4] (fun i wr => ∃ k : Nat, k ≤ n ∧ i = .int .i64 k ∧ Filling wr w.heap.size n xs k ∧ Below w.heap.size w wr) (fun i _ => n - (intOf i).toNat)
  case atStart => exact ⟨0, by omega, rfl, hf0, hb1⟩
  case round =>
    clear hf0 hb1
    obtain ⟨k, hk, rfl, hf, hb⟩ := hrel
    by_cases hlt : k < n
    · rcases HS.out with h | ⟨b, off, rfl, hbs, hc⟩
      · subst h; simp only [List.length_nil] at hle; omega
      · have hck := (hb.cell (p := ⟨b, off + k, none⟩) hbs).trans (hc k (by omega))
        obtain ⟨v0, hv0⟩ := hf.cell k hlt
        have hfr := hf.free k
        have hst := hf.store (by omega) hlt
        clear hc
        go_wp2
        go_roundw
        case rel => exact ⟨k + 1, by omega, by go_num, hst, hb.setCell (p := ⟨w.heap.size, k, none⟩) (Nat.le_refl _) _⟩
        case measure => simp [intOf]; omega
    · go_wp2
      go_ret
      have hkn : k = n := by omega
      subst hkn
      refine ⟨w.heap.size, by rw [HN.out]; rfl, rfl, ?_, hb⟩
      rw [HN.out]; exact hf

/-- What eqStringS hands back at equal lists. -/
def EqPost (w : World) (e : Ending) (w' : World) : Prop := e = .returned (.bool true) ∧ ∃ m, w' = w.drewN m

set_option maxRecDepth 100000 in
set_option maxHeartbeats 1000000 in
theorem eq_any (A B : Option Addr) (n c d : Nat) (xs : List ByteArray) (w : World) (hn : xs.length = n) (h : StrsAt w A xs) (h' : StrsAt w B xs) (hl : n ≤ 1048576) :
    Calls Try.prog 68 #[.slice A n c, .slice B n d] w (EqPost w) := by
  have hge := Nat.le_of_eq hn
  have hle := Nat.le_of_eq hn.symm
  have HS := Lib.hid h
  have HS' := Lib.hid h'
  clear hn h h'
  go_enter Try.func68, Try.ntmps68
  go_wp2
  go_loopw [5] (fun i wr => ∃ k m : Nat, k ≤ n ∧ i = .int .i64 k ∧ wr = w.drewN m) (fun i _ => n - (intOf i).toNat)
  case atStart => exact ⟨0, 0, by omega, rfl, rfl⟩
  case round =>
    obtain ⟨k, m, hk, rfl, rfl⟩ := hrel
    by_cases hlt : k < n
    · rcases HS.out with h | ⟨b, off, rfl, hbs, hc⟩
      · subst h; simp only [List.length_nil] at hle; omega
      · rcases HS'.out with h | ⟨b', off', rfl, hbs', hc'⟩
        · subst h; simp only [List.length_nil] at hle; omega
        · have hck := hc k (by omega)
          have hck' := hc' k (by omega)
          have hk0 : (0 : Int) ≤ (k : Int) := by omega
          have hkn : (k : Int) < (n : Int) := by omega
          clear hc hc'
          go_wp2_with fail
          go_quiet (fail)
          go_wp2
          go_roundw
          case rel => exact ⟨k + 1, m + nq, by omega, by go_num, rfl⟩
          case measure => simp [intOf]; omega
    · go_wp2
      go_ret
      exact ⟨rfl, m, rfl⟩
end Go.Proofs.Ytkhndofplebcaaa.C1

/-
  Contracts for TextsBytes of program and model, and the walk of the law FnExactTextsBytes.
-/
namespace Go.Proofs.Ytkhndofplebcaaa.C1
open Go.RowKit

/-- The number of the texts, and the first k of them. -/
def tsum (xs : List ByteArray) (k : Nat) : List UInt8 := M.numB xs.length ++ ((xs.take k).map fun x => textB x.data.toList).flatten
/-- Few and short texts. -/
def Good (xs : List ByteArray) : Prop := xs.length ≤ 40 ∧ ∀ k (h : k < xs.length), xs[k].size ≤ 60

theorem tsum_zero (xs : List ByteArray) : tsum xs 0 = M.numB xs.length := by simp [tsum]
theorem tsum_step (xs : List ByteArray) (k : Nat) (h : k < xs.length) : tsum xs (k + 1) = tsum xs k ++ textB xs[k].data.toList := by
  unfold tsum
  rw [List.take_succ_eq_append_getElem h]
  simp only [List.map_append, List.map_cons, List.map_nil, List.flatten_append, List.flatten_cons, List.flatten_nil, List.append_nil, List.append_assoc]
theorem tsum_len (xs : List ByteArray) (k : Nat) (hk : k ≤ xs.length) (h : ∀ j (hj : j < xs.length), j < k → xs[j].size ≤ 60) : (tsum xs k).length ≤ 10 + 70 * k := by
  induction k with
  | zero => rw [tsum_zero]; have := M.numB_len xs.length; omega
  | succ k ih =>
    rw [tsum_step xs k (by omega), List.length_append]
    have h1 := ih (by omega) (fun j hj hjk => h j hj (by omega))
    have h2 := h k (by omega) (by omega)
    have h3 := M.numB_len xs[k].data.toList.length
    have e : xs[k].data.toList.length = xs[k].size := by simp
    unfold textB
    rw [List.length_append]
    omega

set_option maxRecDepth 100000 in
set_option maxHeartbeats 1000000 in
theorem implTexts_good (A : Option Addr) (n c : Nat) (xs : List ByteArray) (w : World) (hn : xs.length = n) (h : StrsAt w A xs) (hg : Good xs) :
    Calls Try.prog 90 #[.slice A n c] w fun e w' => e = .returned (.tuple #[.string ⟨(tsum xs xs.length).toArray⟩, .bool true]) ∧ Below w.heap.size w w' := by
  have HN := Lib.hid hn
  have hge := Nat.le_of_eq hn
  have hle := Nat.le_of_eq hn.symm
  have hn40 : n ≤ 40 := by have := hg.1; omega
  have HS := Lib.hid h
  have HGD := Lib.hid hg
  have HT0 := Lib.hid (tsum_zero xs)
  clear hn h hg
  go_enter Try.func90, Try.ntmps90
  go_wp2_with fail
  refine (appendNum_any _ [] n w.heap.size _ (World.ownsRow_nil _ _ _ _) (Nat.le_refl _) (by omega) (by simp)).mono ?_
  rintro e w1 ⟨v1, rfl, hown1, hb1⟩
  have ho1 : w1.ownsRow w.heap.size 5 1 v1 (tsum xs 0).length (B8 (tsum xs 0)) := by rw [HT0.out, HN.out]; simpa using hown1
  clear hown1
  go_wp2_with fail
  go_loopw [4, 15] (fun v i wr => ∃ k : Nat, k ≤ n ∧ i = .int .i64 k ∧ wr.ownsRow w.heap.size 5 1 v (tsum xs k).length (B8 (tsum xs k)) ∧ Below w.heap.size w wr) (fun _ i _ => n - (intOf i).toNat)
  case atStart => exact ⟨0, by omega, rfl, ho1, hb1⟩
  case round =>
    clear ho1 hb1
    obtain ⟨k, hk, rfl, hown, hb⟩ := hrel
    have hbs0 := hb.size
    by_cases hlt : k < n
    · rcases HS.out with h | ⟨b, off, rfl, hbs, hc⟩
      · subst h; simp only [List.length_nil] at hle; omega
      · have hck := (hb.cell (p := ⟨b, off + k, none⟩) hbs).trans (hc k (by omega))
        have hsz := HGD.out.2 k (by omega)
        have HL := tsum_len xs k (by omega) (fun j hj _ => HGD.out.2 j hj)
        have HST := Lib.hid (tsum_step xs k (by omega))
        have HA := Lib.hid (fun W h1 h2 => appendText_any u4 (tsum xs k) xs[k] w.heap.size W h1 h2 (by omega) (by omega))
        clear hc
        go_wp2_with fail
        refine (HA.out _ hown (by omega)).mono ?_
        rintro e w2 ⟨v2, rfl, hown2, hb2⟩
        rw [← HST.out] at hown2
        go_wp2
        go_roundw
        case rel => exact ⟨k + 1, by omega, by go_num, hown2, hb.trans hb2⟩
        case measure => simp [intOf]; omega
    · have hkn : k = xs.length := by omega
      have HK := Lib.hid hkn
      have hcv := conv_back hown
      clear hkn
      go_wp2
      go_ret2
      exact ⟨by rw [HK.out]; rfl, hb⟩

set_option maxRecDepth 100000 in
set_option maxHeartbeats 1000000 in
theorem implTexts_bad (A : Option Addr) (n c : Nat) (xs : List ByteArray) (w : World) (hn : xs.length = n) (h : StrsAt w A xs) (hl : n ≤ 1048576) (hx : ∀ k (h : k < xs.length), xs[k].size ≤ 1048576) (hg : ¬ Good xs) :
    Calls Try.prog 90 #[.slice A n c] w fun e w' => e = .returned (.tuple #[.string ⟨#[]⟩, .bool false]) ∧ Below w.heap.size w w' := by
  have HN := Lib.hid hn
  have hge := Nat.le_of_eq hn
  have hle := Nat.le_of_eq hn.symm
  have HS := Lib.hid h
  have HGD := Lib.hid hg
  have HT0 := Lib.hid (tsum_zero xs)
  have HX := Lib.hid hx
  clear hn h hg hx
  by_cases hn40 : 40 < n
  · go_enter Try.func90, Try.ntmps90
    go_wp2
    go_ret2
    exact ⟨rfl, Below.refl _ _⟩
  · have hn41 : n ≤ 40 := by omega
    clear hn40
    go_enter Try.func90, Try.ntmps90
    go_wp2_with fail
    refine (appendNum_any _ [] n w.heap.size _ (World.ownsRow_nil _ _ _ _) (Nat.le_refl _) (by omega) (by simp)).mono ?_
    rintro e w1 ⟨v1, rfl, hown1, hb1⟩
    have ho1 : w1.ownsRow w.heap.size 5 1 v1 (tsum xs 0).length (B8 (tsum xs 0)) := by rw [HT0.out, HN.out]; simpa using hown1
    clear hown1
    go_wp2_with fail
    go_loopw [4, 15] (fun v i wr => ∃ k : Nat, k ≤ n ∧ i = .int .i64 k ∧ wr.ownsRow w.heap.size 5 1 v (tsum xs k).length (B8 (tsum xs k)) ∧ Below w.heap.size w wr ∧ Hid (∀ j (hj : j < xs.length), j < k → xs[j].size ≤ 60)) (fun _ i _ => n - (intOf i).toNat)
    case atStart => exact ⟨0, by omega, rfl, ho1, hb1, fun j _ hj => by omega⟩
    case round =>
      clear ho1 hb1
      obtain ⟨k, hk, rfl, hown, hb, HJ⟩ := hrel
      have hbs0 := hb.size
      by_cases hlt : k < n
      · rcases HS.out with h | ⟨b, off, rfl, hbs, hc⟩
        · subst h; simp only [List.length_nil] at hle; omega
        · have hck := (hb.cell (p := ⟨b, off + k, none⟩) hbs).trans (hc k (by omega))
          have hxk := HX.out k (by omega)
          clear hc
          by_cases hsz : xs[k].size ≤ 60
          · have HL := tsum_len xs k (by omega) HJ.out
            have HST := Lib.hid (tsum_step xs k (by omega))
            have HA := Lib.hid (fun W h1 h2 => appendText_any u4 (tsum xs k) xs[k] w.heap.size W h1 h2 (by omega) (by omega))
            go_wp2_with fail
            refine (HA.out _ hown (by omega)).mono ?_
            rintro e w2 ⟨v2, rfl, hown2, hb2⟩
            rw [← HST.out] at hown2
            go_wp2
            go_roundw
            case rel =>
              refine ⟨k + 1, by omega, by go_num, hown2, hb.trans hb2, fun j hj hjk => ?_⟩
              rcases Nat.lt_or_ge j k with h1 | h1
              · exact HJ.out j hj h1
              · have : j = k := by omega
                subst this; omega
            case measure => simp [intOf]; omega
          · have hsz2 : 60 < xs[k].size := by omega
            clear hsz
            go_wp2
            go_ret2
            exact ⟨rfl, hb⟩
      · exact absurd ⟨by omega, fun j hj => HJ.out j hj (by omega)⟩ HGD.out

/-- The model's TextsBytes: its first loop looks at each text's length. -/
theorem str_len {w : World} {A : Option Addr} {xs : List ByteArray} (h : StrsAt w A xs) (k : Nat) (hk : k < xs.length) : ∃ b off, A = some ⟨b, off, none⟩ ∧ b < w.heap.size ∧ w.cell? ⟨b, off + k, none⟩ = some (.string xs[k]) := by
  rcases h with h | ⟨b, off, hA, hb, hc⟩
  · subst h; simp at hk
  · exact ⟨b, off, hA, hb, hc k hk⟩

set_option maxRecDepth 100000 in
set_option maxHeartbeats 1000000 in
theorem l1TextsB_any (A : Option Addr) (n c : Nat) (xs : List ByteArray) (w : World) (hn : xs.length = n) (h : StrsAt w A xs) (hg : Good xs) :
    Calls Try.prog 129 #[.slice A n c] w fun e w' => e = .returned (.string ⟨(tsum xs xs.length).toArray⟩) ∧ Below w.heap.size w w' := by
  have HN := Lib.hid hn
  have hge := Nat.le_of_eq hn
  have hle := Nat.le_of_eq hn.symm
  have hn40 : n ≤ 40 := by have := hg.1; omega
  have HS := Lib.hid h
  have HGD := Lib.hid hg
  have HT0 := Lib.hid (tsum_zero xs)
  clear hn h hg
  go_enter Try.func129, Try.ntmps129
  go_wp2_with fail
  refine (l1NumB_any n _ (by omega)).mono ?_
  rintro e w1 ⟨rfl, hb1⟩
  go_wp2_with fail
  go_loopw [3, 11] (fun v i wr => ∃ k : Nat, k ≤ n ∧ i = .int .i64 k ∧ v = .string ⟨(tsum xs k).toArray⟩ ∧ Below w.heap.size w wr) (fun _ i _ => n - (intOf i).toNat)
  case atStart => exact ⟨0, by omega, rfl, by rw [HT0.out, HN.out], hb1⟩
  case round =>
    clear hb1
    obtain ⟨k, hk, rfl, rfl, hb⟩ := hrel
    by_cases hlt : k < n
    · obtain ⟨b, off, rfl, hbs, hc⟩ := str_len HS.out k (by omega)
      have hck := (hb.cell (p := ⟨b, off + k, none⟩) hbs).trans hc
      have hsz := HGD.out.2 k (by omega)
      have HL := tsum_len xs k (by omega) (fun j hj _ => HGD.out.2 j hj)
      have hnl := M.numB_len xs[k].data.toList.length
      have hadd := fun (W : World) => run_string_add_sum (P := Try.prog) (w := W) ⟨(tsum xs k).toArray⟩ ⟨(textB xs[k].data.toList).toArray⟩ (by
        rw [size_of_list, size_of_list]; unfold textB; rw [List.length_append]; have e : xs[k].data.toList.length = xs[k].size := by simp
        omega)
      have e0 : (⟨(tsum xs k).toArray⟩ : ByteArray) ++ ⟨(textB xs[k].data.toList).toArray⟩ = ⟨(tsum xs (k + 1)).toArray⟩ := by
        rw [tsum_step xs k (by omega)]
        apply ByteArray.ext
        apply Array.ext'
        simp
      simp only [e0] at hadd
      have HA := Lib.hid (fun W => l1TextB_any xs[k] W (by omega))
      clear hc e0 hnl
      go_wp2_with fail
      refine (HA.out _).mono ?_
      rintro e w2 ⟨rfl, hb2⟩
      go_wp2
      go_roundw
      case rel => exact ⟨k + 1, by omega, by go_num, rfl, hb.trans (hb2.mono hb.size)⟩
      case measure => simp [intOf]; omega
    · have hkn : k = xs.length := by omega
      have HK := Lib.hid hkn
      clear hkn
      go_wp2
      go_ret
      exact ⟨by rw [HK.out]; rfl, hb⟩

end Go.Proofs.Ytkhndofplebcaaa.C1

/-
  Contracts for the laws' helpers markText, markStringS and heldStringS.
-/
namespace Go.Proofs.Ytkhndofplebcaaa.C1
open Go.RowKit

/-- Decimal digits, ahead of acc; f bounds their number. -/
def digF : Nat → Nat → List UInt8 → List UInt8
  | 0, _, acc => acc
  | f + 1, n, acc => if n = 0 then acc else digF f (n / 10) (UInt8.ofNat (48 + n % 10) :: acc)
/-- The text that the laws lay for the number k. -/
def mark (k : Nat) : ByteArray := ⟨(109 :: digF 10 k []).toArray⟩
/-- n fits into f digits. -/
def Fits10 (f n : Nat) : Prop := n < 10 ^ f
theorem fits10_step {f n : Nat} (h : Fits10 f n) (hn : 0 < n) : ∃ f', f = f' + 1 ∧ Fits10 f' (n / 10) := by
  cases f with
  | zero => unfold Fits10 at h; omega
  | succ f =>
    refine ⟨f, rfl, ?_⟩
    unfold Fits10 at h ⊢
    rw [Nat.pow_succ] at h
    exact Nat.div_lt_of_lt_mul (by omega)
theorem digF_len (f n : Nat) (acc : List UInt8) : (digF f n acc).length ≤ acc.length + f := by
  induction f generalizing n acc with
  | zero => simp [digF]
  | succ f ih =>
    unfold digF
    split
    · omega
    · have := ih (n / 10) (UInt8.ofNat (48 + n % 10) :: acc); simp only [List.length_cons] at this; omega
theorem mark_size (k : Nat) : (mark k).size ≤ 11 := by
  unfold mark; rw [size_of_list]; have := digF_len 10 k []; simp only [List.length_cons, List.length_nil] at *; omega
theorem digF_done (f : Nat) (acc : List UInt8) : digF f 0 acc = acc := by cases f <;> simp [digF]
theorem digF_go (f n : Nat) (acc : List UInt8) (h : 0 < n) : digF (f + 1) n acc = digF f (n / 10) (UInt8.ofNat (48 + n % 10) :: acc) := by
  simp only [digF]; rw [if_neg (by omega)]
theorem digit_val (n : Nat) : ((UInt8.ofNat (48 + n % 10)).toNat : Int) = 48 + (n : Int) % 10 := by simp [UInt8.toNat_ofNat']; omega

/-- 'string([]byte{b})'. -/
theorem conv_one (w : World) (b : UInt8) (x : Int) (hx : (b.toNat : Int) = x) : (convert 115 9 (.slice (some ⟨w.heap.size, 0, none⟩) 1 1)).run Try.prog (w.alloc (.cells #[.int .u8 x] 5)) = .ok (.string ⟨#[b]⟩) (w.alloc (.cells #[.int .u8 x] 5)) := by
  subst hx
  refine run_convert_bytes_back (w.alloc (.cells #[.int .u8 (b.toNat : Int)] 5)) 115 9 5 ⟨w.heap.size, 0, none⟩ 1 [b] Try.underlying115 Try.underlying5 Try.underlying9 (fun j hj => ?_)
  have : j = 0 := by simp at hj; omega
  subst this
  exact one_at w _ 5 0 _ rfl

set_option maxRecDepth 100000 in
set_option maxHeartbeats 1000000 in
theorem mark_any (k : Nat) (w : World) (h1 : 1 ≤ k) (h2 : k ≤ 1000000000) :
    Calls Try.prog 108 #[.int .i64 (k : Int)] w fun e w' => e = .returned (.string (mark k)) ∧ Below w.heap.size w w' := by
  have hf0 : Fits10 10 k := by unfold Fits10; omega
  go_enter Try.func108, Try.ntmps108
  go_wp2
  go_loopw [0, 3] (fun n v wr => ∃ (f m : Nat) (acc : List UInt8), Hid (digF f m acc = digF 10 k []) ∧ Fits10 f m ∧ m ≤ 1000000000 ∧ n = .int .i64 (m : Int) ∧ v = .string ⟨acc.toArray⟩ ∧ acc.length + f ≤ 10 ∧ Below w.heap.size w wr) (fun n _ _ => (intOf n).toNat)
  case atStart => exact ⟨10, k, [], rfl, hf0, h2, rfl, rfl, by simp, Below.refl _ _⟩
  case round =>
    clear hf0
    obtain ⟨f, m, acc, HE, hf, hm, rfl, rfl, hlen, hb⟩ := hrel
    have hbs := hb.size
    by_cases hpos : 0 < m
    · obtain ⟨f', hff, hf'⟩ := fits10_step hf hpos
      have HFF := Lib.hid hff
      obtain ⟨b, hbd⟩ : ∃ b : UInt8, b = UInt8.ofNat (48 + m % 10) := ⟨_, rfl⟩
      have he : digF f' (m / 10) (b :: acc) = digF 10 k [] := by rw [← HE.out, HFF.out, digF_go f' m acc hpos, hbd]
      have HE' := Lib.hid he
      have hcv := fun (W : World) => conv_one W b (48 + (m : Int) % 10) (by rw [hbd]; exact digit_val m)
      have hadd := fun (W : World) => run_string_add_sum (P := Try.prog) (w := W) ⟨#[b]⟩ ⟨acc.toArray⟩ (by
        have e1 : (⟨#[b]⟩ : ByteArray).size = 1 := rfl
        have e2 := size_of_list acc
        omega)
      have e0 : (⟨#[b]⟩ : ByteArray) ++ ⟨acc.toArray⟩ = ⟨(b :: acc).toArray⟩ := by
        apply ByteArray.ext
        apply Array.ext'
        simp
      simp only [e0] at hadd
      clear hff he e0 hbd
      go_wp2
      go_roundw
      case rel => exact ⟨f', m / 10, b :: acc, HE'.out, hf', by omega, by go_num, by simp, by have := HFF.out; simp; omega, hb.alloc hbs _⟩
      case measure => simp [intOf]; omega
    · have h0 : m = 0 := by omega
      have hacc : acc = digF 10 k [] := by rw [← HE.out, h0, digF_done]
      have HA := Lib.hid hacc
      have hadd := fun (W : World) => run_string_add_sum (P := Try.prog) (w := W) ⟨#[109]⟩ ⟨acc.toArray⟩ (by
        have e1 : (⟨#[109]⟩ : ByteArray).size = 1 := rfl
        have e2 := size_of_list acc
        omega)
      have e0 : (⟨#[109]⟩ : ByteArray) ++ ⟨acc.toArray⟩ = mark k := by
        rw [hacc]
        unfold mark
        apply ByteArray.ext
        apply Array.ext'
        simp
      simp only [e0] at hadd
      clear h0 hacc e0
      go_wp2
      go_ret
      exact ⟨rfl, hb⟩

/-- The texts that the laws lay from the number k on. -/
def marks (k n : Nat) : List ByteArray := (List.range n).map fun i => mark (k + i)
theorem marks_len (k n : Nat) : (marks k n).length = n := by simp [marks]
theorem marks_at (k n i : Nat) (h : i < (marks k n).length) : (marks k n)[i] = mark (k + i) := by simp [marks]

/-- A block of n strings, whatever they are. -/
def Room (w : World) (g n : Nat) : Prop := ∃ cur : Array Value, w.heap[g]? = some (.cells cur 9 (0, 0)) ∧ cur.size = n
theorem Filling.room {w : World} {g n k : Nat} {xs : List ByteArray} (h : Filling w g n xs k) : Room w g n := by
  obtain ⟨cur, h1, h2, _⟩ := h
  exact ⟨cur, h1, h2⟩
theorem Room.fill {w : World} {g n : Nat} (h : Room w g n) (xs : List ByteArray) : Filling w g n xs 0 := by
  obtain ⟨cur, h1, h2⟩ := h
  exact ⟨cur, h1, h2, fun j _ hj => by omega⟩
theorem Filling.lt {w : World} {g n k : Nat} {xs : List ByteArray} (h : Filling w g n xs k) : g < w.heap.size := by
  obtain ⟨cur, h1, _⟩ := h
  exact (Array.getElem?_eq_some_iff.1 h1).1
theorem Filling.below {w w' : World} {g n k : Nat} {xs : List ByteArray} (h : Filling w g n xs k) (hb : Below w.heap.size w w') : Filling w' g n xs k := by
  have hlt := h.lt
  obtain ⟨cur, h1, h2, h3⟩ := h
  exact ⟨cur, (hb.block g hlt).trans h1, h2, h3⟩
theorem Room.below {w w' : World} {g n : Nat} (h : Room w g n) (hb : Below w.heap.size w w') : Room w' g n := by
  obtain ⟨cur, h1, h2⟩ := h
  exact ⟨cur, (hb.block g (Array.getElem?_eq_some_iff.1 h1).1).trans h1, h2⟩

set_option maxRecDepth 100000 in
set_option maxHeartbeats 1000000 in
theorem markS_zero (A : Option Addr) (c k : Nat) (w : World) :
    Calls Try.prog 71 #[.slice A 0 c, .int .i64 (k : Int)] w fun e w' => e = .returned (.int .i64 (k : Int)) ∧ w = w' := by
  go_enter Try.func71, Try.ntmps71
  go_wp2
  refine wp_loop_rounds 1 ?_
  rw [rounds_succ]
  go_wp2
  go_ret
  exact ⟨rfl, rfl⟩

set_option maxRecDepth 100000 in
set_option maxHeartbeats 1000000 in
theorem heldS_zero (A : Option Addr) (c k : Nat) (w : World) :
    Calls Try.prog 103 #[.slice A 0 c, .int .i64 (k : Int)] w fun e w' => e = .returned (.int .i64 (k : Int)) ∧ w = w' := by
  go_enter Try.func103, Try.ntmps103
  go_wp2
  refine wp_loop_rounds 1 ?_
  rw [rounds_succ]
  go_wp2
  go_ret
  exact ⟨rfl, rfl⟩

set_option maxRecDepth 100000 in
set_option maxHeartbeats 1000000 in
theorem markS_any (g n c k : Nat) (w : World) (h : Room w g n) (hk1 : 1 ≤ k) (hk : k ≤ 1000000) (hn : n ≤ 1048576) :
    Calls Try.prog 71 #[.slice (some ⟨g, 0, none⟩) n c, .int .i64 (k : Int)] w fun e w' => e = .returned (.int .i64 ((k + n : Nat) : Int)) ∧ Filling w' g n (marks k n) n ∧ w.grownBy w' (some g) := by
  have HF := Lib.hid (h.fill (marks k n))
  have HL := Lib.hid (marks_len k n)
  clear h
  go_enter Try.func71, Try.ntmps71
  go_wp2
  go_loopw [1, 5] (fun m i wr => ∃ j : Nat, j ≤ n ∧ i = .int .i64 j ∧ m = .int .i64 ((k + j : Nat) : Int) ∧ Filling wr g n (marks k n) j ∧ w.grownBy wr (some g)) (fun _ i _ => n - (intOf i).toNat)
  case atStart => exact ⟨0, by omega, rfl, rfl, HF.out, grown_refl _ _⟩
  case round =>
    obtain ⟨j, hj, rfl, rfl, hf, hG⟩ := hrel
    by_cases hlt : j < n
    · have HM := Lib.hid (fun W => mark_any (k + j) W (by omega) (by omega))
      have HAT := Lib.hid (marks_at k n j (by rw [HL.out]; exact hlt))
      go_wp2_with fail
      refine (HM.out _).mono ?_
      rintro e w1 ⟨rfl, hb1⟩
      have hf1 := hf.below hb1
      obtain ⟨v0, hv0⟩ := hf1.cell j hlt
      have hfr := hf1.free j
      have hst := hf1.store (by rw [HL.out]; exact hlt) hlt
      rw [HAT.out] at hst
      have hG1 := grown_below hG hb1
      go_wp2
      go_roundw
      case rel => exact ⟨j + 1, by omega, by go_num, by go_num, hst, grown_set hG1 rfl _⟩
      case measure => simp [intOf]; omega
    · have hjn : j = n := by omega
      subst hjn
      go_wp2
      go_ret
      exact ⟨rfl, hf, hG⟩

set_option maxRecDepth 100000 in
set_option maxHeartbeats 1000000 in
theorem heldS_any (g n c k : Nat) (w : World) (h : Filling w g n (marks k n) n) (hk1 : 1 ≤ k) (hk : k ≤ 1000000) (hn : n ≤ 1048576) :
    Calls Try.prog 103 #[.slice (some ⟨g, 0, none⟩) n c, .int .i64 (k : Int)] w fun e w' => e = .returned (.int .i64 ((k + n : Nat) : Int)) ∧ Below w.heap.size w w' := by
  have HF := Lib.hid h
  have HL := Lib.hid (marks_len k n)
  clear h
  go_enter Try.func103, Try.ntmps103
  go_wp2
  go_loopw [1, 5] (fun m i wr => ∃ j : Nat, j ≤ n ∧ i = .int .i64 j ∧ m = .int .i64 ((k + j : Nat) : Int) ∧ Below w.heap.size w wr) (fun _ i _ => n - (intOf i).toNat)
  case atStart => exact ⟨0, by omega, rfl, rfl, Below.refl _ _⟩
  case round =>
    obtain ⟨j, hj, rfl, rfl, hb⟩ := hrel
    by_cases hlt : j < n
    · have HM := Lib.hid (fun W => mark_any (k + j) W (by omega) (by omega))
      have HAT := Lib.hid (marks_at k n j (by rw [HL.out]; exact hlt))
      have hfw := HF.out.below hb
      have hgl := hfw.lt
      have hcell : wr.cell? ⟨g, j, none⟩ = some (.string (mark (k + j))) := by
        obtain ⟨cur, h1, h2, h3⟩ := hfw
        rw [cell_of_row wr g j cur 9 (0, 0) h1, ← HAT.out]
        exact h3 j (by rw [HL.out]; exact hlt) hlt
      have hj0 : (0 : Int) ≤ (j : Int) := by omega
      have hj1 : (j : Int) < (n : Int) := by omega
      obtain ⟨t, ht⟩ : ∃ t, t = mark (k + j) := ⟨_, rfl⟩
      rw [← ht] at hcell HM
      clear ht HAT hfw
      go_wp2_with fail
      go_region_held3 (fun w' => w'.cell? ⟨g, j, none⟩ = some (.string t))
        (first | go_keep | exact (hb2.cell (p := ⟨g, j, none⟩) hgl).trans hcell)
        ((go_at_call 108; refine (HM.out _).mono ?_; rintro e w2 ⟨rfl, hb2⟩))
      go_wp2
      go_roundw
      case rel => exact ⟨j + 1, by omega, by go_num, by go_num, Below.trans (b := wr.drew) hb.drew (hb2.mono hb.size)⟩
      case measure => simp [intOf]; omega
    · have hjn : j = n := by omega
      subst hjn
      go_wp2
      go_ret
      exact ⟨rfl, hb⟩
end Go.Proofs.Ytkhndofplebcaaa.C1

/-
  Contracts for the readers of several texts (the program's ReadTexts, the model's texts).
-/
namespace Go.Proofs.Ytkhndofplebcaaa.C1
open Go.RowKit

/-- The first k texts that are read from offset y on, and the offset behind them. -/
def run (s : ByteArray) (y : Nat) : Nat → Option (List ByteArray × Nat)
  | 0 => some ([], y)
  | k + 1 => match run s y k with
    | none => none
    | some (l, z) => if (readText s z).2.2 = true then some (l ++ [(readText s z).1], (readText s z).2.1) else none
theorem run_none (s : ByteArray) (y k n : Nat) (h : run s y k = none) (hn : k ≤ n) : run s y n = none := by
  induction n with
  | zero => have : k = 0 := by omega
            subst this; exact h
  | succ n ih =>
    rcases Nat.lt_or_ge k (n + 1) with h1 | h1
    · simp only [run]; rw [ih (by omega)]
    · have : k = n + 1 := by omega
      subst this; exact h
theorem run_fail (s : ByteArray) (y k z : Nat) (l : List ByteArray) (h : run s y k = some (l, z)) (hf : (readText s z).2.2 = false) : run s y (k + 1) = none := by
  simp only [run]; rw [h]; simp [hf]
theorem run_go (s t : ByteArray) (y k z z' : Nat) (l : List ByteArray) (h : run s y k = some (l, z)) (hf : readText s z = (t, z', true)) : run s y (k + 1) = some (l ++ [t], z') := by
  simp only [run]; rw [h]; simp [hf]
theorem run_len (s : ByteArray) (y k z : Nat) (l : List ByteArray) (hy : y ≤ s.size) (h : run s y k = some (l, z)) : l.length = k ∧ z ≤ s.size := by
  induction k generalizing l z with
  | zero => simp only [run, Option.some.injEq, Prod.mk.injEq] at h; obtain ⟨rfl, rfl⟩ := h; exact ⟨rfl, hy⟩
  | succ k ih =>
    simp only [run] at h
    cases hr : run s y k with
    | none => rw [hr] at h; simp at h
    | some p =>
      obtain ⟨l0, z0⟩ := p
      rw [hr] at h
      simp only at h
      have h0 := ih z0 l0 hr
      split at h
      · rename_i hok
        simp only [Option.some.injEq, Prod.mk.injEq] at h
        obtain ⟨rfl, rfl⟩ := h
        rcases ht : readText s z0 with ⟨t, z', ok⟩
        rw [ht] at hok
        simp only at hok
        subst hok
        have := readText_bounds ht
        exact ⟨by simp [h0.1], this.2.1⟩
      · simp at h

/-- What ReadTexts makes of the bytes at offset q. -/
def readTexts (s : ByteArray) (q : Nat) : Option (List ByteArray × Nat) :=
  if (M.readNum s.data.toList q).2.2 = true ∧ (M.readNum s.data.toList q).1 ≤ 40 then run s (M.readNum s.data.toList q).2.1 (M.readNum s.data.toList q).1 else none

theorem Filling.snoc {w : World} {g n k : Nat} {l : List ByteArray} (t : ByteArray) (hk : l.length = k) (h : Filling w g n l k) (hn : k < n) : Filling (w.setCell ⟨g, k, none⟩ (.string t)) g n (l ++ [t]) (k + 1) := by
  subst hk
  have h0 : Filling w g n (l ++ [t]) l.length := by
    obtain ⟨cur, h1, h2, h3⟩ := h
    refine ⟨cur, h1, h2, fun j hj hjk => ?_⟩
    rw [h3 j hjk hjk, List.getElem_append_left hjk]
  have := h0.store (by simp) hn
  simpa using this

/-- What the program's ReadTexts hands back: nothing, or a new slice that reads as the texts. -/
def RTsPost (o : Option (List ByteArray × Nat)) (w : World) (e : Ending) (w' : World) : Prop :=
  Below w.heap.size w w' ∧
  ((o = none ∧ e = .returned (.tuple #[.slice none 0 0, .int .i64 0, .bool false])) ∨
   ∃ l z g, o = some (l, z) ∧ e = .returned (.tuple #[.slice (some ⟨g, 0, none⟩) l.length l.length, .int .i64 (z : Int), .bool true]) ∧ w.heap.size ≤ g ∧ l.length ≤ 40 ∧ Filling w' g l.length l l.length)

set_option maxRecDepth 100000 in
set_option maxHeartbeats 2000000 in
theorem implReadTexts_yes (s : ByteArray) (q : Nat) (w : World) (h : Place s q) :
    Calls Try.prog 143 #[.string s, .int .i64 (q : Int)] w (RTsPost (readTexts s q) w) := by
  have hs := h.1
  have hq : q ≤ s.size := by have := h.2.2; omega
  have hn := numAt_any s q w (Nat.le_trans hs (by decide)) hq
  rcases hr : M.readNum s.data.toList q with ⟨n, x, ok⟩
  rw [hr] at hn
  have HP := Lib.hid h
  have HN := Lib.hid hn
  have HR := Lib.hid hr
  clear hn hr h
  obtain ⟨i0, hi, hz0, hz1, hz2⟩ := info_parts info9
  cases ok with
  | false =>
    have hz : readTexts s q = none := by unfold readTexts; rw [HR.out]; simp
    have HZ := Lib.hid hz
    obtain ⟨rfl, rfl⟩ := M.read_false _ _ _ _ HR.out
    clear hz
    go_enter Try.func143, Try.ntmps143
    go_wp2_with fail
    refine (canRead_yes s q _ HP.out).mono ?_
    rintro e w' ⟨rfl, rfl⟩
    go_wp2_with fail
    refine HN.out.mono ?_
    rintro e w' ⟨rfl, rfl⟩
    go_wp2
    go_ret3
    exact ⟨Below.refl _ _, .inl ⟨HZ.out, rfl⟩⟩
  | true =>
    obtain ⟨hb1, hb2, hb3, hb4⟩ := M.read_bounds _ q n x HR.out
    rw [drop_len] at hb4
    by_cases h1 : 40 < n
    · have hz : readTexts s q = none := by unfold readTexts; rw [HR.out]; simp; omega
      have HZ := Lib.hid hz
      clear hz
      go_enter Try.func143, Try.ntmps143
      go_wp2_with fail
      refine (canRead_yes s q _ HP.out).mono ?_
      rintro e w' ⟨rfl, rfl⟩
      go_wp2_with fail
      refine HN.out.mono ?_
      rintro e w' ⟨rfl, rfl⟩
      go_wp2
      go_ret3
      exact ⟨Below.refl _ _, .inl ⟨HZ.out, rfl⟩⟩
    · have h2 : n ≤ 40 := by omega
      have hz : readTexts s q = run s x n := by unfold readTexts; rw [HR.out]; exact if_pos ⟨rfl, h2⟩
      have HZ := Lib.hid hz
      have hx : x ≤ s.size := by omega
      clear hz hb1 hb2 hb3 hb4 h1
      go_enter Try.func143, Try.ntmps143
      go_wp2_with fail
      refine (canRead_yes s q _ HP.out).mono ?_
      rintro e w' ⟨rfl, rfl⟩
      go_wp2_with fail
      refine HN.out.mono ?_
      rintro e w' ⟨rfl, rfl⟩
      go_wp2_with (at_make; refine wpList_make_full _ rfl (.tmp 28) (.tmp 28) 22 rfl w.heap.size 9 i0 _ 1 Try.underlying22 hi hz0 hz1 .i64 .i64 _ _ n rfl rfl rfl rfl (by rw [hz2]; omega) (by unfold maxLen; omega) (Nat.le_refl _) ?_; intro w1 hown hgr)
      have hbw : Below w.heap.size w w1 := (Below.refl _ _).grown hgr (Nat.le_refl _) (by simp)
      have hf0 := filling_made (xs := []) hown
      clear hown hgr
      go_loopw [1, 32] (fun z i wr => ∃ (k y : Nat) (l : List ByteArray), k ≤ n ∧ y ≤ s.size ∧ i = .int .i64 k ∧ z = .int .i64 (y : Int) ∧ Hid (l.length = k) ∧ Hid (run s x k = some (l, y)) ∧ Filling wr w.heap.size n l k ∧ Below w.heap.size w wr) (fun _ i _ => n - (intOf i).toNat)
      case atStart => exact ⟨0, x, [], by omega, hx, rfl, rfl, rfl, rfl, hf0, hbw⟩
      case round =>
        clear hf0 hbw
        obtain ⟨k, y, l, hk, hy, rfl, rfl, HL, HRUN, hf, hb⟩ := hrel
        by_cases hlt : k < n
        · have HT := Lib.hid (fun W => textAt_any s y W hs hy)
          rcases ht : readText s y with ⟨t, z, ok⟩
          rw [ht] at HT
          have HTE := Lib.hid ht
          clear ht
          go_wp2_with fail
          refine (HT.out _).mono ?_
          rintro e w2 ⟨rfl, hb2⟩
          unfold TextTuple
          have hf2 := hf.below hb2
          obtain ⟨v0, hv0⟩ := hf2.cell k hlt
          have hfr := hf2.free k
          have hst := Filling.snoc t HL.out hf2 hlt
          have hb3 := hb.trans (hb2.mono hb.size)
          have HB4 := Lib.hid (hb3.setCell (p := ⟨w.heap.size, k, none⟩) (Nat.le_refl _) (.string t))
          clear hf2 hb3 hb2
          cases ok with
          | true =>
            go_wp2
            go_roundw
            case rel => exact ⟨k + 1, z, l ++ [t], by omega, (readText_bounds HTE.out).2.1, by go_num, rfl, by have := HL.out; show (l ++ [t]).length = k + 1; simp; omega, run_go _ _ _ _ _ _ _ HRUN.out HTE.out, hst, HB4.out⟩
            case measure => simp [intOf]; omega
          | false =>
            have HNO := Lib.hid (run_none s x (k + 1) n (run_fail s x k y l HRUN.out (by rw [HTE.out])) (by omega))
            go_wp2
            go_ret3
            exact ⟨HB4.out, .inl ⟨by rw [HZ.out]; exact HNO.out, rfl⟩⟩
        · have hkn : k = n := by omega
          have HKN := Lib.hid hkn
          clear hkn
          go_wp2
          go_ret3
          have e1 : l.length = n := by rw [HL.out, HKN.out]
          refine ⟨hb, .inr ⟨l, y, w.heap.size, by rw [HZ.out, ← HKN.out]; exact HRUN.out, by rw [e1]; rfl, Nat.le_refl _, by omega, ?_⟩⟩
          rw [e1]
          rw [HKN.out] at hf
          exact hf
end Go.Proofs.Ytkhndofplebcaaa.C1

/-
  Contracts for the model's reader of several texts (texts, ReadTexts).
-/
namespace Go.Proofs.Ytkhndofplebcaaa.C1
open Go.RowKit

/-- Strings as cells. -/
def S9 (l : List ByteArray) : List Value := l.map Value.string
theorem S9_len (l : List ByteArray) : (S9 l).length = l.length := by simp [S9]

theorem own_strs {w : World} {base n : Nat} {v : Value} {l : List ByteArray} (h : w.ownsRow base 9 1 v n (S9 l)) : ∃ A c, v = .slice A n c ∧ StrsAt w A l := by
  have hl : l.length = n := by have := h.1; rw [S9_len] at this; omega
  rcases Nat.eq_zero_or_pos n with h0 | h0
  · subst h0
    have : l = [] := List.eq_nil_of_length_eq_zero hl
    subst this
    rcases h.2 with ⟨rfl, _⟩ | ⟨g, cap, cur, rfl, _⟩
    · exact ⟨_, _, rfl, .inl rfl⟩
    · exact ⟨_, _, rfl, .inl rfl⟩
  · obtain ⟨g, cap, rfl, _, hlt⟩ := h.form h0
    refine ⟨_, _, rfl, .inr ⟨g, 0, rfl, hlt, fun k hk => ?_⟩⟩
    have := h.cells (g := g) rfl k (.string l[k]) (by simp [S9, List.getElem?_eq_getElem hk])
    rw [Nat.zero_add]
    have hadd : (⟨g, 0, none⟩ : Addr).add k = ⟨g, k, none⟩ := by unfold Addr.add; split <;> simp_all
    rwa [hadd] at this
theorem own_snocS {w : World} {base k : Nat} {v : Value} {l : List ByteArray} {t : ByteArray} (h : w.ownsRow base 9 1 v (k + 1) (S9 l ++ [.string t])) : w.ownsRow base 9 1 v (k + 1) (S9 (l ++ [t])) := by
  simpa [S9] using h
theorem one_str (t : ByteArray) : ∀ u ∈ [Value.string t], u.oneCell' = true := by
  intro u hu; simp at hu; subst hu; rfl

section
variable {w w1 w2 : World} {g base n : Nat} {v : Value} {xs : List Value} {e : TypeId} {o : Obj}
theorem own_kept (h : w1.ownsRow base e 1 v n xs) (hb : g < base) (hg : w1.grownBy w2 (some g)) : w2.ownsRow base e 1 v n xs := by
  refine h.kept hg ?_
  right
  intro hv
  have := (h.lt g hv).1
  omega
theorem grown_app (hG : w.grownBy w1 (some g)) (h : w1.ownsRow w.heap.size e 1 v n xs) (hg : (w1.alloc o).grownBy w2 v.ownBlock) : w.grownBy w2 (some g) := by
  refine ⟨hg.os.trans hG.os, hg.tape.trans hG.tape, hg.output.trans hG.output, ?_, fun k hk hr => ?_⟩
  · have h1 := hG.size
    have h2 := hg.size
    simp at h2
    omega
  · have h1 := hG.size
    have hne : some k ≠ v.ownBlock := fun e => by have := (h.lt k e.symm).1; omega
    rw [hg.block k (by simp; omega) hne, Below.heap_alloc w1 o k (by omega), hG.block k hk hr]
theorem rat_app {s : ByteArray} {q : Nat} {bad : Bool} (h : w1.ownsRow base e 1 v n xs) (hb : g < base) (hg : (w1.alloc o).grownBy w2 v.ownBlock) (hR : RAt w1 g s q bad) : RAt w2 g s q bad := by
  have hlt := hR.lt
  have hne : some g ≠ v.ownBlock := fun e => by have := (h.lt g e.symm).1; omega
  unfold RAt at hR ⊢
  rw [hg.block g (by simp; omega) hne, Below.heap_alloc w1 o g hlt, hR]
end

/-- What texts leaves. -/
def STPost (o : Option (List ByteArray × Nat)) (w : World) (g : Nat) (s : ByteArray) (e : Ending) (w' : World) : Prop :=
  w.grownBy w' (some g) ∧
  ((o = none ∧ ∃ v q', e = .returned v ∧ RAt w' g s q' true) ∨
   ∃ l z v, o = some (l, z) ∧ e = .returned v ∧ w'.ownsRow w.heap.size 9 1 v l.length (S9 l) ∧ l.length ≤ 40 ∧ RAt w' g s z false)

/-- What the loop of texts keeps while the reader is good. -/
def TsGood (w : World) (g : Nat) (s : ByteArray) (x n : Nat) (i v : Value) (wr : World) : Prop :=
  ∃ (k y : Nat) (l : List ByteArray), k ≤ n ∧ y ≤ s.size ∧ i = .int .i64 ((n - k : Nat) : Int) ∧ Hid (l.length = k) ∧ Hid (run s x k = some (l, y)) ∧ wr.ownsRow w.heap.size 9 1 v k (S9 l) ∧ RAt wr g s y false ∧ w.grownBy wr (some g)
/-- .. and once it is bad. -/
def TsBad (w : World) (g : Nat) (s : ByteArray) (x n : Nat) (i : Value) (wr : World) : Prop :=
  ∃ m q' : Nat, m ≤ 40 ∧ i = .int .i64 (m : Int) ∧ Hid (run s x n = none) ∧ RAt wr g s q' true ∧ w.grownBy wr (some g)

set_option maxRecDepth 100000 in
set_option maxHeartbeats 4000000 in
theorem rtexts_any (g : Nat) (s : ByteArray) (q : Nat) (w : World) (h : RAt w g s q false) (hs : s.size ≤ 6000) (hq : q ≤ s.size) :
    Calls Try.prog 97 #[.pointer (some ⟨g, 0, none⟩)] w (STPost (readTexts s q) w g s) := by
  have HN := Lib.hid (rnum_any g s q w h (Nat.le_trans hs (by decide)) hq)
  have hgw := h.lt
  obtain ⟨i0, hi, hz0, hz1, hz2⟩ := info_parts info9
  go_enter Try.func97, Try.ntmps97
  go_wp2_with fail
  refine HN.out.mono ?_
  rintro e w1 ⟨hG, hres⟩
  rcases hr : M.readNum s.data.toList q with ⟨n, x, ok⟩
  have HR := Lib.hid hr
  rw [hr] at hres
  clear hr
  rcases hres with ⟨hok, rfl, hR⟩ | ⟨hok, rfl, q', hR⟩
  · simp only at hok hR
    subst hok
    obtain ⟨hb1, hb2, hb3, hb4⟩ := M.read_bounds _ q n x HR.out
    rw [drop_len] at hb4
    by_cases h1 : 40 < n
    · have hz : readTexts s q = none := by unfold readTexts; rw [HR.out]; simp; omega
      have HZ := Lib.hid hz
      have f2 := hR.fr 2
      have d2 := hR.c2
      have HS2 := Lib.hid (hR.set2 true)
      have HG2 := Lib.hid (grown_set hG (p := ⟨g, 2, none⟩) rfl (.bool true))
      clear hz
      go_wp2
      refine wp_loop_rounds 1 ?_
      rw [rounds_succ]
      go_wp2
      go_ret
      exact ⟨HG2.out, .inl ⟨HZ.out, _, _, rfl, HS2.out⟩⟩
    · have h2 : n ≤ 40 := by omega
      have hz : readTexts s q = run s x n := by unfold readTexts; rw [HR.out]; exact if_pos ⟨rfl, h2⟩
      have HZ := Lib.hid hz
      have hx : x ≤ s.size := by omega
      have hG1 := hG
      have hR1 := hR
      have d2 := hR.c2
      clear hz hb1 hb2 hb3 hb4 h1
      go_wp2_with fail
      go_loopw [3, 4] (fun i v wr => TsGood w g s x n i v wr ∨ TsBad w g s x n i wr) (fun i _ _ => (intOf i).toNat)
      case atStart => exact .inl ⟨0, x, [], by omega, hx, rfl, rfl, rfl, World.ownsRow_nil _ _ _ _, hR1, hG1⟩
      case round =>
        clear hG1 hR1 d2 hR hG
        rcases hrel with ⟨k, y, l, hk, hy, rfl, HL, HRUN, hown, hR, hG⟩ | ⟨m, q', hm, rfl, HNO, hR, hG⟩
        · have d2 := hR.c2
          by_cases hlt : k < n
          · have HT := Lib.hid (rtext_any g s y wr hR hs hy)
            have hm0 : 0 < n - k := by omega
            have hm1 : n - k ≤ 40 := by omega
            obtain ⟨m, hmd⟩ : ∃ m, m = n - k := ⟨_, rfl⟩
            rw [← hmd] at hm0 hm1 ⊢
            have HM := Lib.hid hmd
            rcases ht : readText s y with ⟨t, z, ok⟩
            have HTE := Lib.hid ht
            clear hmd ht
            go_wp2_with fail
            refine HT.out.mono ?_
            rintro e w2 ⟨hG2, hres⟩
            rw [HTE.out] at hres
            have hown2 := own_kept hown hgw hG2
            have hG3 := grown_trans hG hG2
            have hsz2 := hG3.size
            clear hown hG2
            rcases hres with ⟨hok, rfl, hR2⟩ | ⟨hok, rfl, q', hR2⟩
            · simp only at hok hR2
              subst hok
              go_wp2_with (at_builtin; refine wpList_append_own _ rfl (.tmp 23) (.tmp 26) 22 rfl w.heap.size 9 i0 (.string ⟨#[]⟩) 1 16 Try.underlying22 hi hz0 hz1 hz2 rfl (by decide) _ _ _ rfl (hown2.alloc _) ⟨w2.heap.size, 0, none⟩ 1 1 [.string t] rfl rfl (one_at _ _ _) (one_str _) (by unfold maxLen; omega) (by omega) (by simp; omega) ?_; intro v3 w3 hown3 hg3 _)
              have hR3 := rat_app hown2 hgw hg3 hR2
              have hG4 := grown_app hG3 hown2 hg3
              have ho3 := own_snocS hown3
              clear hown3 hg3 hown2
              go_roundw
              case rel => exact .inl ⟨k + 1, z, l ++ [t], by omega, (readText_bounds HTE.out).2.1, by have := HM.out; go_num, by have := HL.out; show (l ++ [t]).length = k + 1; simp; omega, run_go _ _ _ _ _ _ _ HRUN.out HTE.out, ho3, hR3, hG4⟩
              case measure => simp [intOf]; omega
            · simp only at hok
              subst hok
              have HNO := Lib.hid (run_none s x (k + 1) n (run_fail s x k y l HRUN.out (by rw [HTE.out])) (by omega))
              go_wp2_with (at_builtin; refine wpList_append_own _ rfl (.tmp 23) (.tmp 26) 22 rfl w.heap.size 9 i0 (.string ⟨#[]⟩) 1 16 Try.underlying22 hi hz0 hz1 hz2 rfl (by decide) _ _ _ rfl (hown2.alloc _) ⟨w2.heap.size, 0, none⟩ 1 1 [.string ⟨#[]⟩] rfl rfl (one_at _ _ _) (one_str _) (by unfold maxLen; omega) (by omega) (by simp; omega) ?_; intro v3 w3 hown3 hg3 _)
              have hR3 := rat_app hown2 hgw hg3 hR2
              have hG4 := grown_app hG3 hown2 hg3
              clear hown3 hg3 hown2
              go_roundw
              case rel => exact .inr ⟨m - 1, q', by omega, by go_num, HNO.out, hR3, hG4⟩
              case measure => simp [intOf]; omega
          · have hkn : k = n := by omega
            have HKN := Lib.hid hkn
            have hm0 : n - k = 0 := by omega
            rw [hm0]
            clear hkn hm0
            go_wp2
            go_ret
            refine ⟨hG, .inr ⟨l, y, _, by rw [HZ.out, ← HKN.out]; exact HRUN.out, rfl, by rw [HL.out]; exact hown, by have := HL.out; omega, hR⟩⟩
        · have d2 := hR.c2
          by_cases hm0 : 0 < m
          · go_wp2
            go_ret
            exact ⟨hG, .inl ⟨by rw [HZ.out]; exact HNO.out, _, _, rfl, hR⟩⟩
          · go_wp2
            go_ret
            exact ⟨hG, .inl ⟨by rw [HZ.out]; exact HNO.out, _, _, rfl, hR⟩⟩
  · simp only at hok
    subst hok
    obtain ⟨rfl, rfl⟩ := M.read_false _ _ _ _ HR.out
    have hz : readTexts s q = none := by unfold readTexts; rw [HR.out]; simp
    have HZ := Lib.hid hz
    clear hz
    go_wp2
    refine wp_loop_rounds 1 ?_
    rw [rounds_succ]
    go_wp2
    go_ret
    exact ⟨hG, .inl ⟨HZ.out, _, _, rfl, hR⟩⟩

/-- What the model's ReadTexts hands back. -/
def SRPost (o : Option (List ByteArray × Nat)) (w : World) (e : Ending) (w' : World) : Prop :=
  Below w.heap.size w w' ∧
  ((o = none ∧ e = .returned (.tuple #[.slice none 0 0, .int .i64 0, .bool false])) ∨
   ∃ l z A c, o = some (l, z) ∧ e = .returned (.tuple #[.slice A l.length c, .int .i64 (z : Int), .bool true]) ∧ l.length ≤ 40 ∧ StrsAt w' A l)

set_option maxHeartbeats 400000 in
theorem implReadTexts_no (s : ByteArray) (q : Int) (w : World) (hm : s.size ≤ maxLen) (h : ¬ Place s q) :
    Calls Try.prog 143 #[.string s, .int .i64 q] w fun e w' => e = .returned (.tuple #[.slice none 0 0, .int .i64 0, .bool false]) ∧ w = w' := by
  have H := Lib.hid h
  clear h
  go_enter Try.func143, Try.ntmps143
  go_wp2_with fail
  refine (canRead_no s q _ hm H.out).mono ?_
  rintro e w' ⟨rfl, rfl⟩
  go_wp2
  go_ret3
  exact ⟨rfl, rfl⟩

end Go.Proofs.Ytkhndofplebcaaa.C1

/-
  Contracts for the seal: l1Three, l1Seal of the model, sealOf of the program.
-/
namespace Go.Proofs.Ytkhndofplebcaaa.C1
open Go.RowKit

/-- The three bytes of a number below 2^24, most significant first. -/
def three (n : Nat) : List UInt8 := [UInt8.ofNat (n / 65536), UInt8.ofNat (n / 256 % 256), UInt8.ofNat (n % 256)]
theorem b8_of (k : Nat) (h : k < 256) : ((UInt8.ofNat k).toNat : Int) = (k : Int) := by simp [UInt8.toNat_ofNat']; omega

theorem three_cells (m : Nat) (hm : m < 16000057) : (B8 (three m)).toArray = #[.int .u8 ((m : Int) / 65536), .int .u8 ((m : Int) / 256 % 256), .int .u8 ((m : Int) % 256)] := by
  have h1 := b8_of (m / 65536) (by omega)
  have h2 := b8_of (m / 256 % 256) (by omega)
  have h3 := b8_of (m % 256) (by omega)
  simp only [B8, three, List.map_cons, List.map_nil]
  rw [h1, h2, h3]
  simp

/-- 'string(b)' of a new row of bytes. -/
theorem conv_new (w : World) (l : List UInt8) (c : Nat) : (convert 115 9 (.slice (some ⟨w.heap.size, 0, none⟩) l.length c)).run Try.prog (w.alloc (.cells (B8 l).toArray 5)) = .ok (.string ⟨l.toArray⟩) (w.alloc (.cells (B8 l).toArray 5)) := by
  refine run_convert_bytes_back (w.alloc (.cells (B8 l).toArray 5)) 115 9 5 ⟨w.heap.size, 0, none⟩ c l Try.underlying115 Try.underlying5 Try.underlying9 (fun j hj => ?_)
  have hadd : (⟨w.heap.size, 0, none⟩ : Addr).add j = ⟨w.heap.size, j, none⟩ := by unfold Addr.add; split <;> simp_all
  rw [hadd, cell_of_row _ w.heap.size j _ 5 (0, 0) (heap_alloc_new w _)]
  simp [B8, List.getElem?_eq_getElem hj]

set_option maxHeartbeats 1000000 in
theorem l1Three_any (m : Nat) (w : World) (hm : m < 16000057) :
    Calls Try.prog 162 #[.int .i64 (m : Int)] w fun e w' => e = .returned (.string ⟨(three m).toArray⟩) ∧ Below w.heap.size w w' := by
  have hcv := conv_new w (three m) 3
  rw [three_cells m hm] at hcv
  have e3 : (three m).length = 3 := rfl
  rw [e3] at hcv
  clear e3
  go_enter Try.func162, Try.ntmps162
  go_wp2
  go_ret
  exact ⟨rfl, (Below.refl _ _).alloc (Nat.le_refl _) _⟩

set_option maxHeartbeats 1000000 in
theorem l1Seal_any (s : ByteArray) (w : World) (hs : s.size ≤ 1048576) :
    Calls Try.prog 131 #[.string s] w fun e w' => e = .returned (.string ⟨(s.data.toList ++ three (M.sumL s.data.toList)).toArray⟩) ∧ Below w.heap.size w w' := by
  have hlt := M.sumL_lt s.data.toList
  obtain ⟨m, hm⟩ : ∃ m, m = M.sumL s.data.toList := ⟨_, rfl⟩
  have hl1 := l1Sum_any s w (by unfold maxLen; omega)
  rw [← hm] at hlt hl1 ⊢
  have HL1 := Lib.hid hl1
  have hadd := fun (W : World) => run_string_add_sum (P := Try.prog) (w := W) s ⟨(three m).toArray⟩ (by have e := size_of_list (three m); have e3 : (three m).length = 3 := rfl; omega)
  have e0 : s ++ (⟨(three m).toArray⟩ : ByteArray) = ⟨(s.data.toList ++ three m).toArray⟩ := by
    apply ByteArray.ext
    apply Array.ext'
    simp
  simp only [e0] at hadd
  clear e0 hm hl1
  go_enter Try.func131, Try.ntmps131
  go_wp2_with fail
  refine HL1.out.mono ?_
  rintro e w' ⟨rfl, rfl⟩
  go_wp2_with fail
  refine (l1Three_any m _ hlt).mono ?_
  rintro e w1 ⟨rfl, hb1⟩
  go_wp2
  go_ret
  exact ⟨rfl, hb1⟩

theorem BytesAt.below {w w' : World} {A : Option Addr} {l : List UInt8} (h : BytesAt w A l) (hb : Below w.heap.size w w') : BytesAt w' A l := by
  rcases h with h | ⟨b, off, hA, hlt, hc⟩
  · exact .inl h
  · exact .inr ⟨b, off, hA, Nat.lt_of_lt_of_le hlt hb.size, fun k hk => (hb.cell (p := ⟨b, off + k, none⟩) hlt).trans (hc k hk)⟩
theorem BytesAt.alloc {w : World} {A : Option Addr} {l : List UInt8} (h : BytesAt w A l) (o : Obj) : BytesAt (w.alloc o) A l := h.below ((Below.refl _ _).alloc (Nat.le_refl _) o)

set_option maxHeartbeats 1000000 in
theorem sealOf_any (A : Option Addr) (n c : Nat) (l : List UInt8) (w : World) (hn : l.length = n) (h : BytesAt w A l) (hl : n ≤ maxLen) :
    Calls Try.prog 138 #[.slice A n c] w fun e w' => e = .returned (.agg #[.int .u8 ((M.sumL l : Nat) / 65536 : Int), .int .u8 ((M.sumL l : Nat) / 256 % 256 : Int), .int .u8 ((M.sumL l : Nat) % 256 : Int)]) ∧ Below w.heap.size w w' := by
  have hs := M.sumL_lt l
  obtain ⟨m, hm⟩ : ∃ m, m = M.sumL l := ⟨_, rfl⟩
  have hsb := fun W hW => sumBytes_any A n c l W hn hW hl
  rw [← hm] at hs hsb ⊢
  have HSB := Lib.hid hsb
  have HB := Lib.hid h
  clear hm hsb h
  go_enter Try.func138, Try.ntmps138
  go_wp2_with fail
  refine (HSB.out _ (HB.out.alloc _)).mono ?_
  rintro e w1 ⟨rfl, rfl⟩
  go_wp2
  exact bodyPost_ret (v := .agg #[.int .u8 ((m : Int) / 65536), .int .u8 ((m : Int) / 256 % 256), .int .u8 ((m : Int) % 256)]) (by simp [results, Try.results138, go_sem]) rfl ⟨rfl, (Below.refl _ _).alloc (Nat.le_refl _) _⟩

/-- What sealOf hands back. -/
def sealVal (m : Nat) : Value := .agg #[.int .u8 ((m : Int) / 65536), .int .u8 ((m : Int) / 256 % 256), .int .u8 ((m : Int) % 256)]
/-- The sealed bytes. -/
def sealed (l : List UInt8) : List UInt8 := l ++ three (M.sumL l)

set_option maxHeartbeats 1000000 in
theorem implSeal_no (s : ByteArray) (w : World) (hm : s.size ≤ maxLen) (hs : 5997 < s.size) :
    Calls Try.prog 92 #[.string s] w fun e w' => e = .returned (.tuple #[.string ⟨#[]⟩, .bool false]) ∧ w = w' := by
  unfold maxLen at hm
  go_enter Try.func92, Try.ntmps92
  go_wp2
  go_ret2
  exact ⟨rfl, rfl⟩

theorem below_setCells {B g : Nat} (hg : B ≤ g) (vs : List Value) (o : Nat) {a w : World} (h : Below B a w) : Below B a (w.setCells g o vs) := by
  induction vs generalizing o w with
  | nil => exact h
  | cons v vs ih => exact ih (o + 1) (h.setCell (p := ⟨g, o, none⟩) hg v)

/-- The row that '[]byte(s)' lays: its cells are there, and none of them is frozen. -/
def SRow (W : World) (g : Nat) (s : ByteArray) (cap : Nat) : Prop := s.size ≤ cap ∧ W.heap[g]? = some (.cells (bytesRow s cap) 5 ((bytesRow s cap).size, (bytesRow s cap).size + 1))
section
variable {W W' : World} {g cap : Nat} {s : ByteArray}
theorem bytesRow_size (h : s.size ≤ cap) : (bytesRow s cap).size = cap := by
  have : s.data.size = s.size := rfl
  simp only [bytesRow, Array.size_append, Array.size_map, Array.size_replicate]
  omega
theorem SRow.below (h : SRow W g s cap) (hb : Below W.heap.size W W') : SRow W' g s cap := ⟨h.1, (hb.block g (Array.getElem?_eq_some_iff.1 h.2).1).trans h.2⟩
theorem SRow.lt (h : SRow W g s cap) : g < W.heap.size := (Array.getElem?_eq_some_iff.1 h.2).1
theorem SRow.olds (h : SRow W g s cap) : ∀ j u, (B8 s.data.toList)[j]? = some u → W.cell? ⟨g, 0 + j, none⟩ = some u := by
  intro j u hj
  have hjl : j < s.data.toList.length := by
    have := (List.getElem?_eq_some_iff.1 hj).1
    rwa [B8_len] at this
  rw [cell_of_row W g (0 + j) _ _ _ h.2, Nat.zero_add, bytesRow_at s cap j (by simpa using hjl), ← hj]
  simp only [B8, List.getElem?_map, List.getElem?_eq_getElem hjl, Option.map_some]
  rfl
theorem SRow.at_ (h : SRow W g s cap) (j : Nat) (hj : j < cap) : (W.cell? ⟨g, j, none⟩).isSome = true ∧ W.frozen? ⟨g, j, none⟩ = false := by
  have hz := bytesRow_size h.1
  refine ⟨?_, ?_⟩
  · rw [cell_of_row W g j _ _ _ h.2, Array.getElem?_eq_getElem (by omega)]; rfl
  · simp only [World.frozen?, h.2]
    rw [hz]
    simp; omega
theorem SRow.spare (h : SRow W g s cap) (hr : s.size + 3 ≤ cap) (news : List Value) (hn : news.length = 3) : ∀ j, j < news.length → (W.cell? ⟨g, 0 + s.size * 1 + j, none⟩).isSome = true ∧ W.frozen? ⟨g, 0 + s.size * 1 + j, none⟩ = false :=
  fun j hj => h.at_ _ (by omega)
/-- The bytes and three more, written behind them: as a string. -/
theorem SRow.conv (h : SRow W g s cap) (hr : s.size + 3 ≤ cap) (t : List UInt8) (ht : t.length = 3) :
    (convert 115 9 (.slice (some ⟨g, 0, none⟩) (s.size + 3) cap)).run Try.prog (W.setCells g s.size (B8 t)) = .ok (.string ⟨(s.data.toList ++ t).toArray⟩) (W.setCells g s.size (B8 t)) := by
  have hl : (s.data.toList ++ t).length = s.size + 3 := by simp [ht]
  have hd : s.data.toList.length = s.size := by simp
  rw [← hl]
  refine run_convert_bytes_back _ 115 9 5 ⟨g, 0, none⟩ cap _ Try.underlying115 Try.underlying5 Try.underlying9 (fun j hj => ?_)
  have hadd : (⟨g, 0, none⟩ : Addr).add j = ⟨g, j, none⟩ := by unfold Addr.add; split <;> simp_all
  rw [hadd]
  rcases Nat.lt_or_ge j s.size with h1 | h1
  · rw [World.cell?_setCells_out g (B8 t) s.size W ⟨g, j, none⟩ (fun _ _ => .inl h1)]
    have := h.olds j (.int .u8 (s.data.toList[j].toNat : Int)) (by simp [B8, List.getElem?_eq_getElem (show j < s.data.toList.length by omega)])
    rw [Nat.zero_add] at this
    rw [this, List.getElem_append_left (by omega)]
  · have hin := World.cell?_setCells_in g (B8 t) s.size W (fun i hi => by rw [B8_len] at hi; exact (h.at_ (s.size + i) (by omega)).1) (j - s.size) (by rw [B8_len]; omega)
    rw [show s.size + (j - s.size) = j from by omega] at hin
    rw [hin, List.getElem_append_right (by omega)]
    simp [B8]
end
theorem three_news (m : Nat) (hm : m < 16000057) : B8 (three m) = [.int .u8 ((m : Int) / 65536), .int .u8 ((m : Int) / 256 % 256), .int .u8 ((m : Int) % 256)] := by
  have h := three_cells m hm
  have := congrArg Array.toList h
  simpa using this

set_option maxRecDepth 100000 in
set_option maxHeartbeats 1000000 in
theorem implSeal_yes (s : ByteArray) (w : World) (hs : s.size ≤ 5997) :
    Calls Try.prog 92 #[.string s] w fun e w' => e = .returned (.tuple #[.string ⟨(sealed s.data.toList).toArray⟩, .bool true]) ∧ Below w.heap.size w w' := by
  obtain ⟨cap, w1, hconv, hrow, hcap, hbel, hsz⟩ := conv_bytes s w
  obtain ⟨i0, hi, hz0, hz1, hz2⟩ := info_parts info5
  have hm := M.sumL_lt s.data.toList
  obtain ⟨m, hmd⟩ : ∃ m, m = M.sumL s.data.toList := ⟨_, rfl⟩
  have hso := fun W hW => sealOf_any (some ⟨w.heap.size, 0, none⟩) s.size cap s.data.toList W (by simp) hW (by unfold maxLen; omega)
  rw [← hmd] at hm hso
  have HM := Lib.hid hmd
  have HSO := Lib.hid hso
  have HR := Lib.hid (show SRow w1 w.heap.size s cap from ⟨hcap, hrow⟩)
  have HN := Lib.hid (three_news m hm)
  clear hrow hsz hmd hso
  go_enter Try.func92, Try.ntmps92
  go_wp2_with fail
  refine (HSO.out _ (bytesAt_row HR.out.2)).mono ?_
  rintro e w2 ⟨rfl, hb2⟩
  have hbw2 := hbel.trans (hb2.mono hbel.size)
  have hR2 := HR.out.below hb2
  have hR3 := hR2.below ((Below.refl _ _).alloc (Nat.le_refl _) (.cells #[.int .u8 ((m : Int) / 65536), .int .u8 ((m : Int) / 256 % 256), .int .u8 ((m : Int) % 256)] 162))
  have hb3 := hbw2.alloc hbw2.size (.cells #[.int .u8 ((m : Int) / 65536), .int .u8 ((m : Int) / 256 % 256), .int .u8 ((m : Int) % 256)] 162)
  have HB3 := Lib.hid hb3
  have HR3 := Lib.hid hR3
  have h1 : B8 s.data.toList = B8 s.data.toList := rfl
  clear hR2 hR3 hb3 h1
  by_cases hr : s.size + 3 ≤ cap
  · have hcv := HR3.out.conv hr (three m) rfl
    rw [HN.out] at hcv
    go_wp2_with (at_builtin; refine wpList_append_arg _ rfl (.tmp 13) (.tmp 14) 115 rfl 5 i0 (.int .u8 0) 1 1 Try.underlying115 hi hz0 hz1 hz2 rfl (by decide) w.heap.size 0 s.size cap (B8 s.data.toList) rfl (by rw [B8_len]; simp) HR3.out.olds ⟨w2.heap.size, 0, none⟩ 3 3 [.int .u8 ((m : Int) / 65536), .int .u8 ((m : Int) / 256 % 256), .int .u8 ((m : Int) % 256)] rfl rfl (World.news_of_block (fr := (0, 0)) (heap_alloc_new w2 _)) (by intro u hu; simp at hu; rcases hu with rfl | rfl | rfl <;> rfl) (fun h => HR3.out.spare h _ rfl) (by unfold maxLen; omega) (by omega) (fun _ => ?_) (fun h => absurd h (by omega)))
    go_ret2
    exact ⟨by unfold sealed; rw [← HM.out]; rfl, below_setCells (Nat.le_refl _) _ _ HB3.out⟩
  · go_wp2_with (at_builtin; refine wpList_append_arg _ rfl (.tmp 13) (.tmp 14) 115 rfl 5 i0 (.int .u8 0) 1 1 Try.underlying115 hi hz0 hz1 hz2 rfl (by decide) w.heap.size 0 s.size cap (B8 s.data.toList) rfl (by rw [B8_len]; simp) HR3.out.olds ⟨w2.heap.size, 0, none⟩ 3 3 [.int .u8 ((m : Int) / 65536), .int .u8 ((m : Int) / 256 % 256), .int .u8 ((m : Int) % 256)] rfl rfl (World.news_of_block (fr := (0, 0)) (heap_alloc_new w2 _)) (by intro u hu; simp at hu; rcases hu with rfl | rfl | rfl <;> rfl) (fun h => HR3.out.spare h _ rfl) (by unfold maxLen; omega) (by omega) (fun h => absurd h hr) (fun _ => ?_); intro v4 w4 hown4 hg4; rw [← HN.out, ← B8_app] at hown4; have hcv := conv_back hown4)
    go_ret2
    exact ⟨by unfold sealed; rw [← HM.out]; rfl, HB3.out.grown hg4 HB3.out.size (by simp)⟩
end Go.Proofs.Ytkhndofplebcaaa.C1

/-
  Contracts for splitSeal and OpenSeal of the program, OpenSeal of the model.
-/
namespace Go.Proofs.Ytkhndofplebcaaa.C1
open Go.RowKit

set_option maxRecDepth 100000 in
set_option maxHeartbeats 2000000 in
theorem split_any (g : Nat) (n L c : Nat) (d0 d1 d2 : Int) (w : World) (hL : n + 3 = L) (hc : n + 3 ≤ c) (hn : n + 3 ≤ 6000)
    (h0 : w.cell? ⟨g, n, none⟩ = some (.int .u8 d0)) (h1 : w.cell? ⟨g, n + 1, none⟩ = some (.int .u8 d1)) (h2 : w.cell? ⟨g, n + 2, none⟩ = some (.int .u8 d2)) :
    Calls Try.prog 139 #[.slice (some ⟨g, 0, none⟩) L c] w fun e w' => e = .returned (.tuple #[.slice (some ⟨g, 0, none⟩) n n, .agg #[.int .u8 d0, .int .u8 d1, .int .u8 d2]]) ∧ Below w.heap.size w w' := by
  subst hL
  have hn0 : (0 : Int) ≤ (n : Int) := by omega
  have hn1 : (n : Int) ≤ (c : Int) := by omega
  have hgl := World.block_lt_of_cell? w _ h0
  go_enter Try.func139, Try.ntmps139
  go_wp2_with fail
  go_region
  go_wp2
  exact bodyPost_ret (v := .tuple #[.slice (some ⟨g, 0, none⟩) n n, .agg #[.int .u8 d0, .int .u8 d1, .int .u8 d2]]) (by simp [results, Try.results139, go_sem]) rfl ⟨rfl, ((Below.refl _ _).alloc (Nat.le_refl _) _).drew⟩

/-- A part of an array of bytes. -/
theorem part_u8 (w : World) (xs : Array Value) (i : Nat) (v : Value) (hv : xs[i]? = some v) : (part 5 xs i).run Try.prog w = .ok v w := by
  have h5 := Try.isAgg5
  simp [part, h5, hv, go_sem]
theorem eq_seal (w : World) (a0 a1 a2 b0 b1 b2 : Int) :
    (Op.equalIn 10000 162 (.agg #[.int .u8 a0, .int .u8 a1, .int .u8 a2]) (.agg #[.int .u8 b0, .int .u8 b1, .int .u8 b2])).run Try.prog w = .ok (a0 == b0 && a1 == b1 && a2 == b2) w := by
  have h69 : Try.prog.underlying 162 = some (.array 3 5) := by kernel_rfl
  obtain ⟨i0, hi, hz0, hz1, hz2⟩ := info_parts info5
  have hc : Try.prog.cellsOf 5 = 1 := by kernel_rfl
  have hr : List.range 3 = [0, 1, 2] := rfl
  have hq : ∀ x y : Int, (Op.equalIn 9999 5 (.int .u8 x) (.int .u8 y)).run Try.prog w = .ok (x == y) w := fun x y => run_equalIn_int w 9998 5 .u8 .u8 x y Try.underlying5
  rw [show (10000 : Nat) = 9999 + 1 from rfl, run_equalIn_array w 9999 _ _ h69 hi, hc, hr]
  simp only [Op.eqItems, Sem.run_bind, Nat.mul_one]
  rw [part_u8 w _ 0 (.int .u8 a0) rfl]
  simp only [Result.andThen_ok]
  rw [part_u8 w _ 0 (.int .u8 b0) rfl]
  simp only [Result.andThen_ok, hq]
  cases h0 : (a0 == b0)
  · simp
  · simp only [Bool.not_true, Bool.false_eq_true, if_false, Sem.run_bind]
    rw [part_u8 w _ 1 (.int .u8 a1) rfl]
    simp only [Result.andThen_ok]
    rw [part_u8 w _ 1 (.int .u8 b1) rfl]
    simp only [Result.andThen_ok, hq]
    cases h1 : (a1 == b1)
    · simp
    · simp only [Bool.not_true, Bool.false_eq_true, if_false, Sem.run_bind]
      rw [part_u8 w _ 2 (.int .u8 a2) rfl]
      simp only [Result.andThen_ok]
      rw [part_u8 w _ 2 (.int .u8 b2) rfl]
      simp only [Result.andThen_ok, hq]
      cases h2 : (a2 == b2) <;> simp

theorem ofNat_eq (k : Nat) (hk : k < 256) (d : UInt8) : UInt8.ofNat k = d ↔ (d.toNat : Int) = (k : Int) := by
  constructor
  · rintro rfl; exact b8_of k hk
  · intro h
    apply UInt8.toNat_inj.1
    have := b8_of k hk
    omega
theorem seal_eq (d0 d1 d2 : UInt8) (m : Nat) (hm : m < 16000057) :
    (((d0.toNat : Int) == (m : Int) / 65536) && ((d1.toNat : Int) == (m : Int) / 256 % 256) && ((d2.toNat : Int) == (m : Int) % 256)) = decide (three m = [d0, d1, d2]) := by
  rw [Bool.eq_iff_iff]
  simp only [Bool.and_eq_true, beq_iff_eq, decide_eq_true_eq, three, List.cons.injEq, and_true]
  rw [ofNat_eq _ (by omega), ofNat_eq _ (by omega), ofNat_eq _ (by omega)]
  simp [and_assoc]
/-- The last three bytes. -/
theorem drop_three (l : List UInt8) (n : Nat) (h : l.length = n + 3) : l.drop n = [l[n]'(by omega), l[n + 1]'(by omega), l[n + 2]'(by omega)] := by
  rw [List.drop_eq_getElem_cons (by omega), List.drop_eq_getElem_cons (by omega), List.drop_eq_getElem_cons (by omega), List.drop_of_length_le (by omega)]
/-- The last three bytes are the seal of the others. -/
def OkSeal (s : ByteArray) (n : Nat) : Prop := three (M.sumL (s.data.toList.take n)) = s.data.toList.drop n

/-- The byte at j of a row that '[]byte(s)' laid. -/
theorem SRow.byte {W : World} {g cap : Nat} {s : ByteArray} (h : SRow W g s cap) (j : Nat) (hj : j < s.data.toList.length) : W.cell? ⟨g, j, none⟩ = some (.int .u8 (s.data.toList[j].toNat : Int)) := by
  have := h.olds j (.int .u8 (s.data.toList[j].toNat : Int)) (by simp [B8, List.getElem?_eq_getElem hj])
  rwa [Nat.zero_add] at this
theorem SRow.head {W : World} {g cap : Nat} {s : ByteArray} (h : SRow W g s cap) (n : Nat) : BytesAt W (some ⟨g, 0, none⟩) (s.data.toList.take n) := by
  refine .inr ⟨g, 0, rfl, h.lt, fun k hk => ?_⟩
  simp only [List.length_take] at hk
  rw [Nat.zero_add, h.byte k (by omega), List.getElem_take]

/-- 'string(body)' of the first n bytes. -/
theorem SRow.conv_head {W : World} {g cap : Nat} {s : ByteArray} (h : SRow W g s cap) (n : Nat) (hn : n ≤ s.data.toList.length) :
    (convert 115 9 (.slice (some ⟨g, 0, none⟩) n n)).run Try.prog W = .ok (.string ⟨(s.data.toList.take n).toArray⟩) W := by
  have hl : (s.data.toList.take n).length = n := by rw [List.length_take]; omega
  have := run_convert_bytes_back W 115 9 5 ⟨g, 0, none⟩ n (s.data.toList.take n) Try.underlying115 Try.underlying5 Try.underlying9 (fun j hj => by
    have hadd : (⟨g, 0, none⟩ : Addr).add j = ⟨g, j, none⟩ := by unfold Addr.add; split <;> simp_all
    rw [hl] at hj
    rw [hadd, h.byte j (by omega), List.getElem_take])
  rwa [hl] at this
theorem SRow.drew {W : World} {g cap : Nat} {s : ByteArray} (h : SRow W g s cap) : SRow W.drew g s cap := h

set_option maxRecDepth 100000 in
set_option maxHeartbeats 2000000 in
theorem implOpen_yes (s : ByteArray) (w : World) (n : Nat) (hn : n + 3 = s.size) (hs : s.size ≤ 6000) (hok : OkSeal s n) :
    Calls Try.prog 101 #[.string s] w fun e w' => e = .returned (.tuple #[.string ⟨(s.data.toList.take n).toArray⟩, .bool true]) ∧ Below w.heap.size w w' := by
  obtain ⟨cap, w1, hconv, hrow, hcap, hbel, hsz⟩ := conv_bytes s w
  have hdl : s.data.toList.length = s.size := by simp
  have hR1 : SRow w1 w.heap.size s cap := ⟨hcap, hrow⟩
  unfold OkSeal at hok
  rw [drop_three _ n (by omega)] at hok
  obtain ⟨d0, hd0⟩ : ∃ d : UInt8, d = s.data.toList[n]'(by omega) := ⟨_, rfl⟩
  obtain ⟨d1, hd1⟩ : ∃ d : UInt8, d = s.data.toList[n + 1]'(by omega) := ⟨_, rfl⟩
  obtain ⟨d2, hd2⟩ : ∃ d : UInt8, d = s.data.toList[n + 2]'(by omega) := ⟨_, rfl⟩
  have hb0 := hR1.byte n (by omega)
  have hb1 := hR1.byte (n + 1) (by omega)
  have hb2 := hR1.byte (n + 2) (by omega)
  rw [← hd0] at hb0 hok
  rw [← hd1] at hb1 hok
  rw [← hd2] at hb2 hok
  have HSP := Lib.hid (split_any w.heap.size n s.size cap d0.toNat d1.toNat d2.toNat w1 hn (by omega) (by omega) hb0 hb1 hb2)
  have hm := M.sumL_lt (s.data.toList.take n)
  obtain ⟨m, hmd⟩ : ∃ m, m = M.sumL (s.data.toList.take n) := ⟨_, rfl⟩
  have hso := fun W hW => sealOf_any (some ⟨w.heap.size, 0, none⟩) n n (s.data.toList.take n) W (by rw [List.length_take]; omega) hW (by unfold maxLen; omega)
  rw [← hmd] at hm hso hok
  have heq := fun (W : World) => eq_seal W d0.toNat d1.toNat d2.toNat ((m : Int) / 65536) ((m : Int) / 256 % 256) ((m : Int) % 256)
  simp only [seal_eq d0 d1 d2 m hm, decide_eq_true hok] at heq
  have HSO := Lib.hid hso
  have HR1 := Lib.hid hR1
  have hnl : n ≤ s.data.toList.length := by omega
  have HNL := Lib.hid hnl
  have h3 : 3 ≤ s.size := by omega
  clear hrow hsz hmd hso hR1 hb0 hb1 hb2 hd0 hd1 hd2 hdl hn hok hnl
  go_enter Try.func101, Try.ntmps101
  go_wp2_with fail
  refine HSP.out.mono ?_
  rintro e w2 ⟨rfl, hbw2⟩
  have hR2 := HR1.out.below hbw2
  go_wp2_with fail
  obtain ⟨o, ho⟩ : ∃ o, o = Obj.cells #[.int .u8 (d0.toNat : Int), .int .u8 (d1.toNat : Int), .int .u8 (d2.toNat : Int)] 162 := ⟨_, rfl⟩
  rw [← ho]
  have hnew := heap_alloc_new w2 o
  rw [ho] at hnew
  have c0 := cell_of_row _ w2.heap.size 0 _ 162 (0, 0) hnew
  have c1 := cell_of_row _ w2.heap.size 1 _ 162 (0, 0) hnew
  have c2 := cell_of_row _ w2.heap.size 2 _ 162 (0, 0) hnew
  rw [← ho] at c0 c1 c2
  have hgl : w2.heap.size < (w2.alloc o).heap.size := by simp
  have hbw3 := (Below.refl w2.heap.size w2).alloc (Nat.le_refl _) o
  have hR3 := hR2.below hbw3
  have hbyt := hR3.head n
  have hbel3 := (hbel.trans (hbw2.mono hbel.size)).trans (hbw3.mono ((hbel.trans (hbw2.mono hbel.size)).size))
  generalize w2.alloc o = W3 at *
  have HR3 := Lib.hid hR3
  have HBY := Lib.hid hbyt
  obtain ⟨g3, hg3⟩ : ∃ g3, g3 = w2.heap.size := ⟨_, rfl⟩
  rw [← hg3] at c0 c1 c2 hgl ⊢
  clear hnew ho hbw3 hR2 hR3 hbyt hg3
  go_region_held3 (fun w' => w'.cell? ⟨g3, 0, none⟩ = some (.int .u8 (d0.toNat : Int)) ∧ w'.cell? ⟨g3, 1, none⟩ = some (.int .u8 (d1.toNat : Int)) ∧ w'.cell? ⟨g3, 2, none⟩ = some (.int .u8 (d2.toNat : Int)))
    (first | go_keep | (go_split_ands; exact ⟨(hb4.cell (p := ⟨g3, 0, none⟩) hgl).trans c0, (hb4.cell (p := ⟨g3, 1, none⟩) hgl).trans c1, (hb4.cell (p := ⟨g3, 2, none⟩) hgl).trans c2⟩))
    ((go_at_call 138; refine (HSO.out _ (by exact HBY.out)).mono ?_; rintro e w4 ⟨rfl, hb4⟩))
  have hR4 := HR3.out.drew.below hb4
  have hcv := hR4.conv_head n HNL.out
  go_wp2
  go_ret2
  exact ⟨rfl, Below.trans (b := W3.drew) hbel3.drew (hb4.mono hbel3.size)⟩

set_option maxRecDepth 100000 in
set_option maxHeartbeats 2000000 in
theorem implOpen_no (s : ByteArray) (w : World) (n : Nat) (hn : n + 3 = s.size) (hs : s.size ≤ 6000) (hok : ¬ OkSeal s n) :
    Calls Try.prog 101 #[.string s] w fun e w' => e = .returned (.tuple #[.string ⟨#[]⟩, .bool false]) ∧ Below w.heap.size w w' := by
  obtain ⟨cap, w1, hconv, hrow, hcap, hbel, hsz⟩ := conv_bytes s w
  have hdl : s.data.toList.length = s.size := by simp
  have hR1 : SRow w1 w.heap.size s cap := ⟨hcap, hrow⟩
  unfold OkSeal at hok
  rw [drop_three _ n (by omega)] at hok
  obtain ⟨d0, hd0⟩ : ∃ d : UInt8, d = s.data.toList[n]'(by omega) := ⟨_, rfl⟩
  obtain ⟨d1, hd1⟩ : ∃ d : UInt8, d = s.data.toList[n + 1]'(by omega) := ⟨_, rfl⟩
  obtain ⟨d2, hd2⟩ : ∃ d : UInt8, d = s.data.toList[n + 2]'(by omega) := ⟨_, rfl⟩
  have hb0 := hR1.byte n (by omega)
  have hb1 := hR1.byte (n + 1) (by omega)
  have hb2 := hR1.byte (n + 2) (by omega)
  rw [← hd0] at hb0 hok
  rw [← hd1] at hb1 hok
  rw [← hd2] at hb2 hok
  have HSP := Lib.hid (split_any w.heap.size n s.size cap d0.toNat d1.toNat d2.toNat w1 hn (by omega) (by omega) hb0 hb1 hb2)
  have hm := M.sumL_lt (s.data.toList.take n)
  obtain ⟨m, hmd⟩ : ∃ m, m = M.sumL (s.data.toList.take n) := ⟨_, rfl⟩
  have hso := fun W hW => sealOf_any (some ⟨w.heap.size, 0, none⟩) n n (s.data.toList.take n) W (by rw [List.length_take]; omega) hW (by unfold maxLen; omega)
  rw [← hmd] at hm hso hok
  have heq := fun (W : World) => eq_seal W d0.toNat d1.toNat d2.toNat ((m : Int) / 65536) ((m : Int) / 256 % 256) ((m : Int) % 256)
  simp only [seal_eq d0 d1 d2 m hm, decide_eq_false hok] at heq
  have HSO := Lib.hid hso
  have HR1 := Lib.hid hR1
  have hnl : n ≤ s.data.toList.length := by omega
  have HNL := Lib.hid hnl
  have h3 : 3 ≤ s.size := by omega
  clear hrow hsz hmd hso hR1 hb0 hb1 hb2 hd0 hd1 hd2 hdl hn hok hnl
  go_enter Try.func101, Try.ntmps101
  go_wp2_with fail
  refine HSP.out.mono ?_
  rintro e w2 ⟨rfl, hbw2⟩
  have hR2 := HR1.out.below hbw2
  go_wp2_with fail
  obtain ⟨o, ho⟩ : ∃ o, o = Obj.cells #[.int .u8 (d0.toNat : Int), .int .u8 (d1.toNat : Int), .int .u8 (d2.toNat : Int)] 162 := ⟨_, rfl⟩
  rw [← ho]
  have hnew := heap_alloc_new w2 o
  rw [ho] at hnew
  have c0 := cell_of_row _ w2.heap.size 0 _ 162 (0, 0) hnew
  have c1 := cell_of_row _ w2.heap.size 1 _ 162 (0, 0) hnew
  have c2 := cell_of_row _ w2.heap.size 2 _ 162 (0, 0) hnew
  rw [← ho] at c0 c1 c2
  have hgl : w2.heap.size < (w2.alloc o).heap.size := by simp
  have hbw3 := (Below.refl w2.heap.size w2).alloc (Nat.le_refl _) o
  have hR3 := hR2.below hbw3
  have hbyt := hR3.head n
  have hbel3 := (hbel.trans (hbw2.mono hbel.size)).trans (hbw3.mono ((hbel.trans (hbw2.mono hbel.size)).size))
  generalize w2.alloc o = W3 at *
  have HR3 := Lib.hid hR3
  have HBY := Lib.hid hbyt
  obtain ⟨g3, hg3⟩ : ∃ g3, g3 = w2.heap.size := ⟨_, rfl⟩
  rw [← hg3] at c0 c1 c2 hgl ⊢
  clear hnew ho hbw3 hR2 hR3 hbyt hg3
  go_region_held3 (fun w' => w'.cell? ⟨g3, 0, none⟩ = some (.int .u8 (d0.toNat : Int)) ∧ w'.cell? ⟨g3, 1, none⟩ = some (.int .u8 (d1.toNat : Int)) ∧ w'.cell? ⟨g3, 2, none⟩ = some (.int .u8 (d2.toNat : Int)))
    (first | go_keep | (go_split_ands; exact ⟨(hb4.cell (p := ⟨g3, 0, none⟩) hgl).trans c0, (hb4.cell (p := ⟨g3, 1, none⟩) hgl).trans c1, (hb4.cell (p := ⟨g3, 2, none⟩) hgl).trans c2⟩))
    ((go_at_call 138; refine (HSO.out _ (by exact HBY.out)).mono ?_; rintro e w4 ⟨rfl, hb4⟩))
  go_wp2
  go_ret2
  exact ⟨rfl, Below.trans (b := W3.drew) hbel3.drew (hb4.mono hbel3.size)⟩

set_option maxHeartbeats 1000000 in
theorem implOpen_out (s : ByteArray) (w : World) (hm : s.size ≤ maxLen) (h : s.size < 3 ∨ 6000 < s.size) :
    Calls Try.prog 101 #[.string s] w fun e w' => e = .returned (.tuple #[.string ⟨#[]⟩, .bool false]) ∧ w = w' := by
  unfold maxLen at hm
  rcases h with h | h
  all_goals
    go_enter Try.func101, Try.ntmps101
    go_wp2
    go_ret2
    exact ⟨rfl, rfl⟩

set_option maxHeartbeats 1000000 in
theorem specOpen_out (s : ByteArray) (w : World) (hm : s.size ≤ maxLen) (h : s.size < 3 ∨ 6000 < s.size) :
    Calls Try.prog 95 #[.string s] w fun e w' => e = .returned (.tuple #[.string ⟨#[]⟩, .bool false]) ∧ w = w' := by
  unfold maxLen at hm
  rcases h with h | h
  all_goals
    go_enter Try.func95, Try.ntmps95
    go_wp2
    go_ret2
    exact ⟨rfl, rfl⟩

theorem head_list (s : ByteArray) (n : Nat) : (s.extract 0 n).data.toList = s.data.toList.take n := by rw [Lib.extract_data]; simp
theorem head_eq (s : ByteArray) (n : Nat) : s.extract 0 n = ⟨(s.data.toList.take n).toArray⟩ := by
  apply ByteArray.ext
  apply Array.ext'
  rw [head_list]
/-- What the model compares: the seal of the first n bytes, with all bytes. -/
theorem reseal_eq (s : ByteArray) (n : Nat) : ((⟨(s.data.toList.take n ++ three (M.sumL (s.data.toList.take n))).toArray⟩ : ByteArray).toList == s.toList) = true ↔ OkSeal s n := by
  rw [beq_iff_eq, ByteArray.toList_eq, ByteArray.toList_eq]
  unfold OkSeal
  have h := List.take_append_drop n s.data.toList
  constructor
  · intro e
    simp only at e
    have e' : s.data.toList.take n ++ three (M.sumL (s.data.toList.take n)) = s.data.toList.take n ++ s.data.toList.drop n := by rw [h]; exact e
    exact List.append_cancel_left e'
  · intro e
    simp only
    rw [e, h]

set_option maxRecDepth 100000 in
set_option maxHeartbeats 1000000 in
theorem specOpen_yes (s : ByteArray) (w : World) (n : Nat) (hn : n + 3 = s.size) (hs : s.size ≤ 6000) (hok : OkSeal s n) :
    Calls Try.prog 95 #[.string s] w fun e w' => e = .returned (.tuple #[.string ⟨(s.data.toList.take n).toArray⟩, .bool true]) ∧ Below w.heap.size w w' := by
  have h1 : (s.size : Int) - 3 = (n : Int) := by omega
  have hse := fun W => l1Seal_any (s.extract 0 n) W (by rw [ByteArray.size_extract]; omega)
  have hE := (reseal_eq s n).2 hok
  rw [head_list] at hse
  obtain ⟨r, hr⟩ : ∃ r : ByteArray, r = ⟨(s.data.toList.take n ++ three (M.sumL (s.data.toList.take n))).toArray⟩ := ⟨_, rfl⟩
  rw [← hr] at hse hE
  have HSE := Lib.hid hse
  have h3 : 3 ≤ s.size := by omega
  have HH := Lib.hid (head_eq s n)
  clear hn hok hr hse
  go_enter Try.func95, Try.ntmps95
  go_wp2_with fail
  refine (HSE.out _).mono ?_
  rintro e w1 ⟨rfl, hb1⟩
  go_wp2
  go_ret2
  exact ⟨by rw [← HH.out]; rfl, hb1⟩

set_option maxRecDepth 100000 in
set_option maxHeartbeats 1000000 in
theorem specOpen_no (s : ByteArray) (w : World) (n : Nat) (hn : n + 3 = s.size) (hs : s.size ≤ 6000) (hok : ¬ OkSeal s n) :
    Calls Try.prog 95 #[.string s] w fun e w' => e = .returned (.tuple #[.string ⟨#[]⟩, .bool false]) ∧ Below w.heap.size w w' := by
  have h1 : (s.size : Int) - 3 = (n : Int) := by omega
  have hse := fun W => l1Seal_any (s.extract 0 n) W (by rw [ByteArray.size_extract]; omega)
  have hE : ((⟨(s.data.toList.take n ++ three (M.sumL (s.data.toList.take n))).toArray⟩ : ByteArray).toList == s.toList) = false := by
    rw [Bool.eq_false_iff]; exact fun h => hok ((reseal_eq s n).1 h)
  rw [head_list] at hse
  obtain ⟨r, hr⟩ : ∃ r : ByteArray, r = ⟨(s.data.toList.take n ++ three (M.sumL (s.data.toList.take n))).toArray⟩ := ⟨_, rfl⟩
  rw [← hr] at hse hE
  have HSE := Lib.hid hse
  have h3 : 3 ≤ s.size := by omega
  clear hn hok hr hse
  go_enter Try.func95, Try.ntmps95
  go_wp2_with fail
  refine (HSE.out _).mono ?_
  rintro e w1 ⟨rfl, hb1⟩
  go_wp2
  go_ret2
  exact ⟨rfl, hb1⟩

end Go.Proofs.Ytkhndofplebcaaa.C1

/-
  Plain facts: reading gives back what was written (a number, a text, several texts), at any offset. No Go in sight; no condition.
-/
namespace Go.Proofs.Ytkhndofplebcaaa.C1
open Go.RowKit

namespace M
theorem numF_body (f n : Nat) (hf : Fits f n) : body (numF f n) := by
  induction f generalizing n with
  | zero => unfold Fits at hf; simp only [numF, body, UInt8.toNat_ofNat']; omega
  | succ f ih =>
    by_cases h : n < 128
    · rw [numF_small _ _ h]; simp only [body, UInt8.toNat_ofNat']; omega
    · obtain ⟨f', e, h'⟩ := fits_pos _ _ hf (by omega)
      have e' : f = f' := by omega
      subst e'
      rw [numF_step f n (by omega)]
      have hb := ih (n / 128) h'
      have hne := (numF_len f (n / 128)).2
      cases hq : numF f (n / 128) with
      | nil => rw [hq] at hne; simp at hne
      | cons d r => rw [hq] at hb; exact ⟨by simp only [UInt8.toNat_ofNat']; omega, hb⟩
theorem vl_numF (f n : Nat) (hf : Fits f n) : vl (numF f n) = n := by
  induction f generalizing n with
  | zero => unfold Fits at hf; simp only [numF, vl, UInt8.toNat_ofNat']; omega
  | succ f ih =>
    by_cases h : n < 128
    · rw [numF_small _ _ h]; simp only [vl, UInt8.toNat_ofNat']; omega
    · obtain ⟨f', e, h'⟩ := fits_pos _ _ hf (by omega)
      have e' : f = f' := by omega
      subst e'
      rw [numF_step f n (by omega)]
      simp only [vl, ih (n / 128) h', UInt8.toNat_ofNat']
      omega
theorem numF_len_fit (j f n : Nat) (hj : Fits j n) : (numF f n).length ≤ j + 1 := by
  induction f generalizing j n with
  | zero => simp [numF]
  | succ f ih =>
    by_cases h : n < 128
    · rw [numF_small _ _ h]; simp
    · obtain ⟨j', e, h'⟩ := fits_pos _ _ hj (by omega)
      rw [numF_step f n (by omega), List.length_cons]
      have := ih j' (n / 128) h'
      omega
theorem body_split (l : List UInt8) (h : body l) : ∃ p c, l = p ++ [c] ∧ (∀ x ∈ p, 128 ≤ x.toNat) ∧ c.toNat < 128 := by
  induction l with
  | nil => exact h.elim
  | cons x r ih =>
    cases r with
    | nil => exact ⟨[], x, rfl, by simp, h⟩
    | cons y r =>
      obtain ⟨p, c, e, hp, hc⟩ := ih h.2
      refine ⟨x :: p, c, by rw [e]; rfl, ?_, hc⟩
      intro z hz
      rcases List.mem_cons.1 hz with rfl | hz
      · exact h.1
      · exact hp z hz
/-- A number is read back. -/
theorem read_num (n q : Nat) (rest : List UInt8) (hn : n ≤ 1000000000) : readAt (numB n ++ rest) q = (n, q + (numB n).length, true) := by
  have hfit := fits_max n hn
  obtain ⟨p, c, e, hp, hc⟩ := body_split (numB n) (numF_body 9 n hfit)
  have hv : vl (numB n) = n := vl_numF 9 n hfit
  have hl : (numB n).length ≤ 5 := numF_len_fit 4 9 n (by unfold Fits; omega)
  have hlast := (lastOf_numF 9 n hfit).2
  change 1 ≤ n → (lastOf (numB n)).toNat ≠ 0 at hlast
  have hlen : (numB n).length = p.length + 1 := by rw [e]; simp
  have hd : (numB n ++ rest).getD p.length 0 = c := by
    rw [e]; simp [List.getD]
  have hhi : High (numB n ++ rest) p.length := by
    intro j hj
    have : (numB n ++ rest).getD j 0 = p[j] := by
      rw [e]
      simp only [List.getD, List.append_assoc]
      rw [List.getElem?_append_left hj, List.getElem?_eq_getElem hj]
      rfl
    rw [this]
    exact hp _ (List.getElem_mem _)
  have ht : (numB n ++ rest).take (p.length + 1) = numB n := by
    rw [← hlen, List.take_append_of_le_length (Nat.le_refl _), List.take_of_length_le (Nat.le_refl _)]
  rw [read_stop _ q p.length hhi (by omega) (by rw [List.length_append]; omega) (by rw [hd]; exact hc), ht, hv, hd]
  have hz : p.length = 0 ∨ c.toNat ≠ 0 := by
    rcases Nat.eq_zero_or_pos n with h0 | h0
    · left
      subst h0
      have : (numB 0).length = 1 := rfl
      omega
    · right
      have := hlast h0
      rw [e, lastOf_snoc] at this
      exact this
  rw [if_pos ⟨hn, hz⟩, hlen]
  simp [Nat.add_assoc]
end M

theorem data_len (s : ByteArray) : s.data.toList.length = s.size := by simp
/-- A text is read back. -/
theorem read_text (S t : ByteArray) (q : Nat) (rest : List UInt8) (ht : t.size ≤ 60) (h : S.data.toList.drop q = textB t.data.toList ++ rest) (hq : q ≤ S.size) :
    readText S q = (t, q + (textB t.data.toList).length, true) := by
  have hlen : S.size - q = (textB t.data.toList).length + rest.length := by
    have := congrArg List.length h
    rw [List.length_drop, List.length_append, data_len] at this
    exact this
  have e1 : t.data.toList.length = t.size := data_len t
  have htb : (textB t.data.toList).length = (M.numB t.size).length + t.size := by unfold textB; rw [List.length_append, e1]
  have hr : M.readNum S.data.toList q = (t.size, q + (M.numB t.size).length, true) := by
    unfold M.readNum
    rw [h]
    unfold textB
    rw [List.append_assoc, e1]
    exact M.read_num t.size q _ (by omega)
  rw [readText_yes hr ht (by omega)]
  have hx : S.extract (q + (M.numB t.size).length) (q + (M.numB t.size).length + t.size) = t := by
    apply ByteArray.ext
    apply Array.ext'
    rw [Lib.extract_data, ← List.drop_drop, h]
    unfold textB
    rw [e1, List.append_assoc, List.drop_append_of_le_length (Nat.le_refl _), List.drop_of_length_le (Nat.le_refl _), List.nil_append]
    rw [show q + (M.numB t.size).length + t.size - (q + (M.numB t.size).length) = t.data.toList.length from by omega]
    rw [List.take_append_of_le_length (Nat.le_refl _), List.take_of_length_le (Nat.le_refl _)]
  rw [hx, htb, Nat.add_assoc]

/-- The texts from the k-th on. -/
def tailB (xs : List ByteArray) (k : Nat) : List UInt8 := ((xs.drop k).map fun x => textB x.data.toList).flatten
theorem tail_step (xs : List ByteArray) (k : Nat) (h : k < xs.length) : tailB xs k = textB xs[k].data.toList ++ tailB xs (k + 1) := by
  unfold tailB
  rw [List.drop_eq_getElem_cons h]
  simp only [List.map_cons, List.flatten_cons]
theorem tsum_tail (xs : List ByteArray) : tsum xs xs.length = M.numB xs.length ++ tailB xs 0 := by
  unfold tsum tailB
  rw [List.take_of_length_le (Nat.le_refl _), List.drop_zero]
/-- Several texts are read back, one by one. -/
theorem run_ok (S : ByteArray) (xs : List ByteArray) (y : Nat) (rest : List UInt8) (hx : ∀ k (h : k < xs.length), xs[k].size ≤ 60) (hy : S.data.toList.drop y = tailB xs 0 ++ rest) (hyS : y ≤ S.size) (k : Nat) (hk : k ≤ xs.length) :
    ∃ z, run S y k = some (xs.take k, z) ∧ z ≤ S.size ∧ S.data.toList.drop z = tailB xs k ++ rest ∧ z + (tailB xs k).length = y + (tailB xs 0).length := by
  induction k with
  | zero => exact ⟨y, by simp [run], hyS, hy, rfl⟩
  | succ k ih =>
    obtain ⟨z, h1, h2, h3, h4⟩ := ih (by omega)
    rw [tail_step xs k (by omega), List.append_assoc] at h3
    have hr := read_text S xs[k] z _ (hx k (by omega)) h3 h2
    have hlen := congrArg List.length h3
    rw [List.length_drop, List.length_append, data_len] at hlen
    refine ⟨z + (textB xs[k].data.toList).length, ?_, by omega, ?_, ?_⟩
    · rw [run_go S xs[k] y k z _ _ h1 hr, List.take_succ_eq_append_getElem (by omega)]
    · rw [← List.drop_drop, h3, List.drop_append_of_le_length (Nat.le_refl _), List.drop_of_length_le (Nat.le_refl _), List.nil_append]
    · rw [tail_step xs k (by omega), List.length_append] at h4
      omega
/-- .. all of them. -/
theorem read_texts (S : ByteArray) (xs : List ByteArray) (q : Nat) (hg : Good xs) (h : S.data.toList.drop q = tsum xs xs.length) (hq : q ≤ S.size) : readTexts S q = some (xs, S.size) := by
  rw [tsum_tail] at h
  have hr : M.readNum S.data.toList q = (xs.length, q + (M.numB xs.length).length, true) := by
    unfold M.readNum
    rw [h]
    exact M.read_num xs.length q _ (by have := hg.1; omega)
  unfold readTexts
  rw [hr, if_pos ⟨rfl, hg.1⟩]
  have hlen := congrArg List.length h
  rw [List.length_drop, List.length_append, data_len] at hlen
  have hd : S.data.toList.drop (q + (M.numB xs.length).length) = tailB xs 0 ++ [] := by
    rw [← List.drop_drop, h, List.drop_append_of_le_length (Nat.le_refl _), List.drop_of_length_le (Nat.le_refl _)]
    simp
  obtain ⟨z, h1, h2, h3, h4⟩ := run_ok S xs (q + (M.numB xs.length).length) [] hg.2 hd (by omega) xs.length (Nat.le_refl _)
  rw [h1, List.take_of_length_le (Nat.le_refl _)]
  have ht : (tailB xs xs.length).length = 0 := by unfold tailB; rw [List.drop_of_length_le (Nat.le_refl _)]; rfl
  rw [show z = S.size from by omega]
end Go.Proofs.Ytkhndofplebcaaa.C1

/-
  Bytes appended to a row of the call's own: blocks of other types stay as they were.
-/
namespace Go.Proofs.Ytkhndofplebcaaa.C1
open Go.RowKit
set_option linter.unusedVariables false

/-- Blocks of cells of other types than byte are as they were. -/
def Oth (w w' : World) : Prop := ∀ (b : Nat) (cs : Array Value) (t : TypeId) (fz : Nat × Nat), t ≠ 5 → w.heap[b]? = some (.cells cs t fz) → w'.heap[b]? = some (.cells cs t fz)
section
variable {w wr w1 : World} {base n : Nat} {v : Value} {xs : List Value} {o : Obj}
theorem Oth.refl (w : World) : Oth w w := fun _ _ _ _ _ h => h
theorem Oth.trans (h : Oth w wr) (k : Oth wr w1) : Oth w w1 := fun b cs t fz ht hb => k b cs t fz ht (h b cs t fz ht hb)
theorem Oth.of (h : Below w.heap.size w w1) : Oth w w1 := fun b cs t fz ht hb => (h.block b (Array.getElem?_eq_some_iff.1 hb).1).trans hb
theorem Oth.grown (h : Oth w wr) (ho : wr.ownsRow base 5 1 v n xs) (hg : wr.grownBy w1 v.ownBlock) : Oth w w1 := fun b cs t fz ht hb => by
  have h1 := h b cs t fz ht hb
  refine (hg.block b (Array.getElem?_eq_some_iff.1 h1).1 fun e => ?_).trans h1
  rcases ho.2 with ⟨rfl, _⟩ | ⟨g, cap, cur, rfl, _, hh, _⟩
  · simp [Value.ownBlock] at e
  · have e2 : b = g := by simpa [Value.ownBlock] using e
    subst e2
    rw [h1] at hh
    simp only [Option.some.injEq, Obj.cells.injEq] at hh
    exact ht hh.2.1
theorem Oth.app (h : Oth w wr) (ho : wr.ownsRow base 5 1 v n xs) (hg : (wr.alloc o).grownBy w1 v.ownBlock) : Oth w w1 :=
  Oth.grown (w := w) (wr := wr.alloc o) (fun b cs t fz ht hb => by have h1 := h b cs t fz ht hb; exact (Below.heap_alloc _ _ _ (Array.getElem?_eq_some_iff.1 h1).1).trans h1) (ho.alloc o) hg
end

set_option maxRecDepth 100000 in
set_option maxHeartbeats 1000000 in
theorem appendNum_oth (v : Value) (xs : List UInt8) (m base : Nat) (w : World) (hown : w.ownsRow base 5 1 v xs.length (B8 xs)) (hbase : base ≤ w.heap.size) (hm : m ≤ 1000000000) (hlen : xs.length ≤ 1000000000) :
    Calls Try.prog 87 #[v, .int .i64 (m : Int)] w fun e w' => ∃ v', e = .returned v' ∧ w'.ownsRow base 5 1 v' (xs ++ M.numB m).length (B8 (xs ++ M.numB m)) ∧ Below base w w' ∧ Oth w w' := by
  obtain ⟨i0, hi, hz0, hz1, hz2⟩ := info_parts info5
  go_enter Try.func87, Try.ntmps87
  go_wp2
  go_loopw [0, 1] (fun v i wr => NumRel base w (xs ++ M.numB m) (xs.length + 9) v i wr ∧ Oth w wr) (fun _ i _ => (intOf i).toNat)
  case atStart => exact ⟨⟨9, m, xs, rfl, M.fits_max m hm, hm, rfl, by omega, hown, Below.refl _ _⟩, Oth.refl w⟩
  case round =>
    obtain ⟨⟨f, k, acc, HE, hf, hk, rfl, htop, hownr, hbel⟩, hoth⟩ := hrel
    have hbs := hbel.size
    by_cases hge : 128 ≤ k
    · obtain ⟨f', hff, hf', he'⟩ := M.num_round f k acc _ HE.out hf hge
      have HE' := Lib.hid he'
      have HFF := Lib.hid hff
      clear he' hff
      go_wp2_with (at_builtin; refine wpList_append_own _ rfl (.tmp 7) (.tmp 12) 115 rfl base 5 i0 (.int .u8 0) 1 1 Try.underlying115 hi hz0 hz1 hz2 rfl (by decide) _ _ _ rfl (hownr.alloc _) ⟨wr.heap.size, 0, none⟩ 1 1 [.int .u8 ((k : Int) % 128 + 128)] rfl rfl (one_at _ _ _) (one_int _ _) (by unfold maxLen; omega) (by omega) (by simp; omega) ?_; intro v1 w1 hown1 hg1 _)
      have hb1 := below_app hbel hbase hownr hg1
      have hot1 := hoth.app hownr hg1
      have ho1 := own_snoc (M.ofNat_high k) hown1
      clear hown1 hg1 hownr hoth
      go_roundw
      case rel => exact ⟨⟨f', k / 128, acc ++ [UInt8.ofNat (k % 128 + 128)], HE'.out, hf', by omega, by go_num, by have := HFF.out; simp; omega, ho1, hb1⟩, hot1⟩
      case measure => simp [intOf]; omega
    · have hlo : (k : Int) < 128 := by omega
      go_wp2_with (at_builtin; refine wpList_append_own _ rfl (.tmp 16) (.tmp 19) 115 rfl base 5 i0 (.int .u8 0) 1 1 Try.underlying115 hi hz0 hz1 hz2 rfl (by decide) _ _ _ rfl (hownr.alloc _) ⟨wr.heap.size, 0, none⟩ 1 1 [.int .u8 (k : Int)] rfl rfl (one_at _ _ _) (one_int _ _) (by unfold maxLen; omega) (by omega) (by simp; omega) ?_; intro v1 w1 hown1 hg1 _)
      go_ret
      refine ⟨_, rfl, ?_, below_app hbel hbase hownr hg1, hoth.app hownr hg1⟩
      rw [← HE.out, M.numF_small f k (by omega)]
      exact own_snoc (M.ofNat_low k (by omega)) hown1

set_option maxRecDepth 100000 in
set_option maxHeartbeats 400000 in
theorem appendText_oth (v : Value) (xs : List UInt8) (s : ByteArray) (base : Nat) (w : World) (hown : w.ownsRow base 5 1 v xs.length (B8 xs)) (hbase : base ≤ w.heap.size) (hs : s.size ≤ 1048576) (hlen : xs.length ≤ 1000000000) :
    Calls Try.prog 91 #[v, .string s] w fun e w' => ∃ v', e = .returned v' ∧ w'.ownsRow base 5 1 v' (xs ++ textB s.data.toList).length (B8 (xs ++ textB s.data.toList)) ∧ Below base w w' ∧ Oth w w' := by
  obtain ⟨i0, hi, hz0, hz1, hz2⟩ := info_parts info5
  have hn := M.numB_len s.size
  go_enter Try.func91, Try.ntmps91
  go_wp2_with fail
  refine (appendNum_oth _ xs s.size base _ hown hbase (by omega) hlen).mono ?_
  rintro e w1 ⟨v1, rfl, hown1, hb1, hot1⟩
  have hbs := hb1.size
  go_wp2_with (at_builtin; refine Lib.wpList_append_own_string _ rfl (.tmp 8) (.tmp 9) 115 9 rfl base 5 i0 Try.underlying115 Try.underlying9 hi hz0 hz1 hz2 _ _ _ rfl hown1 s rfl (by unfold maxLen; simp; omega) (by simp; omega) (by omega) ?_; intro v2 w2 hown2 hg2 _)
  go_ret
  refine ⟨_, rfl, ?_, below_grown hb1 hbase hown1 hg2, hot1.grown hown1 hg2⟩
  rw [strCells_B8, ← B8_app] at hown2
  have e1 : s.data.toList.length = s.size := by simp
  simpa [textB, e1, List.append_assoc, Nat.add_assoc] using hown2

end Go.Proofs.Ytkhndofplebcaaa.C1
