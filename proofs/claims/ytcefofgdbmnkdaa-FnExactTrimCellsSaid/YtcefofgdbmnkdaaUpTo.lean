/-
  The program's iterator over the versions up to a time (upTo): its contract, for every loop body.
-/
import Derived.RangeFuncNested
import Derived.RangeFuncBound
import Derived.RangeFuncCalls
import Derived.RangeFuncLeaves
import Derived.Shelf.Abstract
import Derived.Shelf.RegionOpen
import Derived.WalkKit
import Derived.OwnWalkIn
import Derived.TacticsInMore
import Derived.LoopNIn
import Derived.LoopIn
import Derived.Test.YtcefofgdbmnkdaaMem
import Derived.Test.YtcefofgdbmnkdaaPre
namespace Go.Proofs.Ytcefofgdbmnkdaa
open Go.RowKit Go.Shelf CM
set_option linter.unusedVariables false

attribute [local go_sem] Oper.semAt_some

/-- What a round of a loop over versions is handed. -/
def encV (x : Nat × (Int × ByteArray × Bool)) : Array Value := #[.int .i64 (x.1 : Int), .agg #[.int .i64 x.2.1, .string x.2.2.1, .bool x.2.2.2]]
/-- The first k versions, each with its place. -/
def prs (vs : List (Int × ByteArray × Bool)) (k : Nat) : List (Nat × (Int × ByteArray × Bool)) := (List.range k).map fun j => (j, vs[j]?.getD (0, ByteArray.empty, false))
theorem prs_succ (vs : List (Int × ByteArray × Bool)) (k : Nat) (h : k < vs.length) : prs vs (k + 1) = prs vs k ++ [(k, vs[k])] := by
  simp [prs, List.range_succ, List.getElem?_eq_getElem h]
theorem prs_length (vs : List (Int × ByteArray × Bool)) (k : Nat) : (prs vs k).length = k := by simp [prs]
/-- How many versions come first that are at or before a time. -/
def leadN (t : Int) : List (Int × ByteArray × Bool) → Nat
  | [] => 0
  | v :: r => if v.1 ≤ t then leadN t r + 1 else 0
theorem leadN_le (t : Int) (vs : List (Int × ByteArray × Bool)) : leadN t vs ≤ vs.length := by
  induction vs with
  | nil => exact Nat.le_refl _
  | cons v r ih => unfold leadN; split <;> simp <;> omega
theorem leadN_in (t : Int) (vs : List (Int × ByteArray × Bool)) (k : Nat) (h : k < leadN t vs) (hk : k < vs.length) : (vs[k]).1 ≤ t := by
  induction vs generalizing k with
  | nil => simp at hk
  | cons v r ih =>
    unfold leadN at h
    split at h
    · rename_i hv
      cases k with
      | zero => exact hv
      | succ k => exact ih k (by omega) (by simpa using hk)
    · omega
theorem leadN_out (t : Int) (vs : List (Int × ByteArray × Bool)) (hk : leadN t vs < vs.length) : t < (vs[leadN t vs]).1 := by
  induction vs with
  | nil => simp at hk
  | cons v r ih =>
    by_cases hv : v.1 ≤ t
    · have e : leadN t (v :: r) = leadN t r + 1 := by simp [leadN, hv]
      have h2 : leadN t r < r.length := by rw [e] at hk; simpa using hk
      simp only [e, List.getElem_cons_succ]
      exact ih h2
    · have e : leadN t (v :: r) = 0 := by simp [leadN, hv]
      simp only [e, List.getElem_cons_zero]
      omega

/-- What a round that goes on keeps: what lay below n₀, and the block Bt. -/
def KpV (n₀ Bt : Nat) (W W' : World) : Prop := Below n₀ W W' ∧ W'.heap[Bt]? = W.heap[Bt]?
theorem KpV.trans {n₀ Bt : Nat} {A B C : World} (h : KpV n₀ Bt A B) (k : KpV n₀ Bt B C) : KpV n₀ Bt A C := ⟨h.1.trans k.1, k.2.trans h.2⟩
theorem KpV.refl (n₀ Bt : Nat) (W : World) : KpV n₀ Bt W W := ⟨Below.refl _ _, rfl⟩
theorem KpV.alloc {n₀ Bt : Nat} {A W : World} (h : KpV n₀ Bt A W) (hn : n₀ ≤ W.heap.size) (hB : Bt < W.heap.size) (o : Obj) : KpV n₀ Bt A (W.alloc o) := ⟨h.1.alloc hn o, (Below.heap_alloc W o Bt hB).trans h.2⟩
theorem kpV_b {n₀ Bt : Nat} {w : World} (hn : n₀ ≤ w.heap.size) (hB : Bt < w.heap.size) (W : World) (l : Nat) (o o' : Obj) (hl : w.heap.size ≤ l) (h : W.heap[l]? = some o) (_ : o.isCells = false) (_ : o.isWalk = false) : KpV n₀ Bt W (W.putObj l o') :=
  ⟨(Below.refl n₀ W).grown (grownBy_putObj' W l o') (by have := (Array.getElem?_eq_some_iff.1 h).1; omega) (fun k e => by cases e; omega), World.putObj_heap_other (fun e => by omega)⟩

set_option maxRecDepth 100000 in
set_option maxHeartbeats 2000000 in
theorem upTo1_in (F : Fence) (n : Nat) (hF : F.fn 117) (hro : F.round = none) (hn : 1 ≤ n) (l Bv Bt n₀ : Nat) (A : Option Addr) (cap B : Nat) (vs : List (Int × ByteArray × Bool)) (t : Int) (hl : vs.length ≤ 1048576) (hBn : B ≤ n₀) (J Jx : List (Nat × (Int × ByteArray × Bool)) → World → Prop) (W : World)
    (hJ : AbidesFrom W.heap.size J)
    (hY : ∀ pre x W1, J pre W1 → pre.length < leadN t vs → YieldAt F (n - 1) Try.prog l (encV x) W1 fun e W' =>
      (e = .returned (.bool true) ∧ J (pre ++ [x]) W' ∧ KpV n₀ Bt W1 W') ∨ (e = .returned (.bool false) ∧ Jx (pre ++ [x]) W'))
    (hBv : W.cell? ⟨Bv, 0, none⟩ = some (.slice A vs.length cap)) (hBt : W.cell? ⟨Bt, 0, none⟩ = some (.int .i64 t)) (hv : VersB W B A vs) (hn₀ : n₀ ≤ W.heap.size) (h0 : J [] W) :
    CallsIn F n Try.prog 117 #[.func (.yield l) #[] #[], .pointer (some ⟨Bv, 0, none⟩), .pointer (some ⟨Bt, 0, none⟩)] W fun e W' => (∃ v, e = .returned v) ∧
      ((∃ ys, ys = prs vs (leadN t vs) ∧ J ys W') ∨ (∃ pre, (∃ k, k ≤ leadN t vs ∧ pre = prs vs k) ∧ Jx pre W')) := by
  have hBtl : Bt < W.heap.size := by have := World.block_lt_of_cell? W _ hBt; simpa using this
  refine callsIn_of_wp Try.func117 rfl hF ?_ hro
  simp only [Try.ntmps117, List.size_toArray, List.length_cons, List.length_nil, Nat.reduceAdd, Nat.reduceSub, Array.replicate_succ, Array.replicate_zero, List.push_toArray, List.append_toArray, List.nil_append, List.cons_append]
  gi_wp2
  gi_loopw [8] (fun i wr => ∃ k : Nat, k ≤ leadN t vs ∧ i = .int .i64 k ∧ J (prs vs k) wr ∧ KpV n₀ Bt W wr) (fun i _ => vs.length - (intOf i).toNat)
  case atStart => exact ⟨0, Nat.zero_le _, rfl, h0, KpV.refl _ _ _⟩
  case round =>
    obtain ⟨k, hk, rfl, hJs, hK⟩ := hrel
    have hll := leadN_le t vs
    have hws := hK.1.size
    by_cases hlt : k < vs.length
    · have hct : wr.cell? ⟨Bt, 0, none⟩ = some (.int .i64 t) := (World.cell?_of_block (w := W) (a := ⟨Bt, 0, none⟩) hK.2).trans hBt
      have hvr := hv.below (hK.1.mono hBn)
      obtain ⟨b, off, rfl, hbB, hc⟩ := hvr.get (by omega)
      obtain ⟨c0, c1, c2⟩ := hc k hlt
      obtain ⟨y, hy⟩ : ∃ y, y = vs[k] := ⟨_, rfl⟩
      rw [← hy] at c0 c1 c2
      have HY := Lib.hid hy
      obtain ⟨t1, s1, gb⟩ := y
      simp only at c0 c1 c2
      have hbl : b < wr.heap.size := by omega
      have hBtw : Bt < wr.heap.size := by omega
      have hne : Bt ≠ wr.heap.size := by omega
      clear hc hy
      by_cases htt : t < t1
      · have hkk : k = leadN t vs := by
          rcases Nat.lt_or_ge k (leadN t vs) with h | h
          · have h5 := leadN_in t vs k h hlt
            rw [← HY.out] at h5
            simp only at h5
            omega
          · omega
        have HKK := Lib.hid hkk
        have HJ1 := Lib.hid (hJ _ _ _ none hJs (World.grownBy_alloc wr (.cells #[.int .i64 t1, .string s1, .bool gb] 83) none) (fun r e => by cases e))
        clear hkk hJs
        gi_wp2
        refine ⟨fun _ h => (by cases h), ?_⟩
        gi_wp2
        refine bodyPost_ret (results_none rfl _ _ _) rfl ?_
        exact ⟨⟨_, rfl⟩, .inl ⟨_, rfl, by have h := HJ1.out; rw [HKK.out] at h; exact h⟩⟩
      · have hkl : k < leadN t vs := by
          rcases Nat.lt_or_ge k (leadN t vs) with h | h
          · exact h
          · exfalso
            obtain rfl : k = leadN t vs := by omega
            have h5 := leadN_out t vs hlt
            rw [← HY.out] at h5
            exact htt h5
        have HJ1 := Lib.hid (hJ _ _ _ none hJs (World.grownBy_alloc wr (.cells #[.int .i64 t1, .string s1, .bool gb] 83) none) (fun r e => by cases e))
        have HK1 := Lib.hid (hK.alloc (by omega) hBtw (.cells #[.int .i64 t1, .string s1, .bool gb] 83))
        have HPS := Lib.hid (show prs vs k ++ [(k, (t1, s1, gb))] = prs vs (k + 1) by rw [prs_succ vs k hlt, ← HY.out])
        obtain ⟨fn, tmps, assign, body, hyy, hR⟩ := hY _ (k, (t1, s1, gb)) _ HJ1.out (by rw [prs_length]; exact hkl)
        unfold encV at hyy
        dsimp only at hyy
        clear hJs hK
        gi_wp2
        refine hR.mono ?_
        rintro e W3 (⟨rfl, hJ3, hk3⟩ | ⟨rfl, hJx3⟩)
        · rw [HPS.out] at hJ3
          have HJ3 := Lib.hid hJ3
          have HK3 := Lib.hid (HK1.out.trans hk3)
          clear hJ3 hk3
          gi_wp2
          go_roundw
          case rel => exact ⟨k + 1, by omega, by simp, HJ3.out, HK3.out⟩
          case measure => simp [intOf]; omega
        · rw [HPS.out] at hJx3
          gi_wp2
          refine bodyPost_ret (results_none rfl _ _ _) rfl ?_
          exact ⟨⟨_, rfl⟩, .inr ⟨_, ⟨k + 1, by omega, rfl⟩, hJx3⟩⟩
    · have hkk : k = leadN t vs := by omega
      have HKK := Lib.hid hkk
      clear hkk
      gi_wp2
      go_end0
      exact ⟨⟨_, rfl⟩, .inl ⟨_, rfl, by have h := hJs; rw [HKK.out] at h; exact h⟩⟩

theorem upTo_in (F : Fence) (n : Nat) (hF : F.fn 104) (hro : F.round = none) (A : Option Addr) (len cap : Nat) (t : Int) (w : World) :
    CallsIn F n Try.prog 104 #[.slice A len cap, .int .i64 t] w fun e w' => e = .returned (.func (.func 117) #[] #[.pointer (some ⟨w.heap.size, 0, none⟩), .pointer (some ⟨w.heap.size + 1, 0, none⟩)]) ∧ w' = (w.alloc (.cells #[.slice A len cap] 79)).alloc (.cells #[.int .i64 t] 3) := by
  refine callsIn_of_wp Try.func104 rfl hF ?_ hro
  simp only [Try.ntmps104, List.size_toArray, List.length_cons, List.length_nil, Nat.reduceAdd, Nat.reduceSub, Array.replicate_succ, Array.replicate_zero, List.push_toArray, List.append_toArray, List.nil_append, List.cons_append]
  gi_wp2
  go_ret
  exact ⟨rfl, rfl⟩

/-- upTo hands back a value that stops: the versions up to the time, each with its place, in their order. -/
theorem upTo_stops (F : Fence) (n : Nat) (hF : F.fn 117) (hro : F.round = none) (hn : 1 ≤ n) (Bv Bt n₀ : Nat) (A : Option Addr) (cap B : Nat) (vs : List (Int × ByteArray × Bool)) (t : Int) (hl : vs.length ≤ 1048576) (hBn : B ≤ n₀) (w : World)
    (hBv : Boxed w Bv 79 (.slice A vs.length cap)) (hBt : Boxed w Bt 3 (.int .i64 t)) (hv : VersB w B A vs) (hn₀ : n₀ ≤ w.heap.size) :
    SeqStopsK F n Try.prog 117 #[.pointer (some ⟨Bv, 0, none⟩), .pointer (some ⟨Bt, 0, none⟩)] encV (KpV n₀ Bt) (fun ys => ys = prs vs (leadN t vs)) (fun pre => ∃ k, k ≤ leadN t vs ∧ pre = prs vs k) (leadN t vs) w := fun l J Jx W hW hJ _ hY h0 =>
  upTo1_in F n hF hro hn l Bv Bt n₀ A cap B vs t hl hBn J Jx W hJ hY ((hW.cell (p := ⟨Bv, 0, none⟩) hBv.lt).trans hBv.cell) ((hW.cell (p := ⟨Bt, 0, none⟩) hBt.lt).trans hBt.cell) (hv.below (hW.mono (by omega))) (Nat.le_trans hn₀ hW.size) h0
end Go.Proofs.Ytcefofgdbmnkdaa
