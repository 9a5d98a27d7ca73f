/-
  Contracts for framesIn of the program and l6Frames of the model.
-/
import Derived.Test.YtcjejbnogghkcaaDk6
import Derived.Laws.OwnMore
namespace Go.Proofs.Ytcjejbnogghkcaa.Dk
open Go.RowKit C1
set_option linter.unusedVariables false
set_option linter.unusedSimpArgs false

/-- Frames as an answer: a row of the call's own, and the offset behind them. -/
def LEnd (r : List ByteArray × Nat) (w : World) (e : Ending) (w' : World) : Prop :=
  ∃ (A : Option Addr) (c : Nat), e = .returned (.tuple #[.slice A r.1.length c, .int .i64 (r.2 : Int)]) ∧ w'.ownsRow w.heap.size 9 1 (.slice A r.1.length c) r.1.length (S9 r.1) ∧ Below w.heap.size w w'

set_option maxRecDepth 100000 in
set_option maxHeartbeats 1000000 in
theorem framesIn_any (b : ByteArray) (n : Nat) (w : World) (hb : b.size ≤ 1048576) (hn : (n : Int) ≤ 9223372036854775807) :
    Calls Try.prog 57 #[.string b, .int .i64 (n : Int)] w (LEnd (frs b n 0) w) := by
  have n0 := alloc4 w (.cells #[.string b] 9) (.cells #[.int .i64 (n : Int)] 3) (.cells #[.slice none 0 0] 31) (.cells #[.int .i64 0] 3)
  obtain ⟨a0, a1, a2, a3, asz, abel⟩ := n0
  have HT := Lib.hid (tryF_any (w.heap.size + 1 + 1) (w.heap.size + 1) (w.heap.size + 1 + 1 + 1) w.heap.size b n _ hb hn a2 a1 a3 a0 (by omega) (by omega) (by omega) (by omega) (by omega))
  have ASZ := Lib.hid asz
  have AB := Lib.hid abel
  clear a0 a1 a2 a3 asz abel
  go_enter Try.func57, Try.ntmps57
  go_wp2_with fail
  refine HT.out.mono ?_
  rintro e w5 ⟨⟨ok, rfl⟩, A, c, e0, e1, e2, hT⟩
  have c0 := cell_of_row _ _ 0 _ _ (0, 0) e0
  have c2 := cell_of_row _ _ 0 _ _ (0, 0) e2
  simp only [List.getElem?_toArray, List.getElem?_cons_zero] at c0 c2
  have HO := Lib.hid (row_mono (lo' := w.heap.size) e1 (by rw [ASZ.out]; omega))
  have HB := Lib.hid (AB.out.trans (hT.below (B := w.heap.size) (by omega) (by omega) AB.out.size))
  clear e0 e1 e2 hT
  go_wp2_with fail
  go_quiet (fail)
  go_wp2
  go_ret2
  exact ⟨A, c, rfl, HO.out, below_drewN HB.out _⟩

/-- What the model's loop over the frames keeps. -/
def GRel (w : World) (b : ByteArray) (v i : Value) (wr : World) : Prop :=
  ∃ (l : List ByteArray) (q : Nat), wr.ownsRow w.heap.size 9 1 v l.length (S9 l) ∧ i = .int .i64 (q : Int) ∧ q ≤ b.size ∧ 4 * l.length ≤ q ∧ Hid (frs b b.size 0 = (l ++ (frs b (b.size - l.length) q).1, (frs b (b.size - l.length) q).2)) ∧ Below w.heap.size w wr

set_option maxRecDepth 100000 in
set_option maxHeartbeats 2000000 in
theorem l6Frames_any (b : ByteArray) (w : World) (hb : b.size ≤ 1048576) :
    Calls Try.prog 59 #[.string b] w (LEnd (frs b b.size 0) w) := by
  obtain ⟨i0, hi, hz0, hz1, hz2⟩ := info_parts info9
  have h0 := World.ownsRow_lit (base := w.heap.size) (e := 9) (size := 1) w #[] 0 (Nat.le_refl _) (by unfold maxLen; omega) rfl
  have HST := Lib.hid (show GRel w b (.slice (some ⟨w.heap.size, 0, none⟩) 0 0) (.int .i64 0) (w.alloc (.cells #[] 9)) from ⟨[], 0, h0, rfl, Nat.zero_le _, Nat.zero_le _, Lib.hid (by simp), below1 _ _⟩)
  clear h0
  go_enter Try.func59, Try.ntmps59
  go_wp2_with fail
  go_loopw [4, 5] (fun v i wr => GRel w b v i wr) (fun _ i _ => b.size - (intOf i).toNat)
  case atStart => exact HST.out
  case round =>
    clear HST
    obtain ⟨l, q, ho, rfl, hq, h4, HF, hB⟩ := hrel
    have HO := Lib.hid ho
    have HB := Lib.hid hB
    have HR := Lib.hid (fun W => l6Read_any b q W hb hq)
    clear ho hB
    cases hf : fread b q with
    | none =>
      rw [hf] at HR
      simp only [l6Ans] at HR
      have HN := Lib.hid (frs_none hf (b.size - l.length))
      clear hf
      go_wp2_with fail
      refine (HR.out _).mono ?_
      rintro e w1 ⟨rfl, hb1⟩
      have HO1 := Lib.hid (row_below HO.out hb1)
      have HB1 := Lib.hid (HB.out.trans (hb1.mono HB.out.size))
      clear hb1
      go_wp2
      go_ret2
      obtain ⟨A, c, rfl⟩ := own_form HO1.out
      have e := HF.out
      rw [HN.out] at e
      simp only [List.append_nil] at e
      unfold LEnd
      rw [e]
      exact ⟨A, c, rfl, HO1.out, HB1.out⟩
    | some p =>
      obtain ⟨s, y⟩ := p
      obtain ⟨_, hlt, hle, _, hy⟩ := fread_bytes hf hq
      have hfb := (frm_bound s).1
      rw [hf] at HR
      simp only [l6Ans] at HR
      have HN := Lib.hid (fun f => frs_some hf f)
      have hll : l.length ≤ 262144 := by omega
      have HY := Lib.hid hy
      clear hf hy
      go_wp2_with fail
      refine (HR.out _).mono ?_
      rintro e w1 ⟨rfl, hb1⟩
      have HO1 := Lib.hid (row_below HO.out hb1)
      have hB1 := HB.out.trans (hb1.mono HB.out.size)
      have hs1 := hB1.size
      have HB1 := Lib.hid hB1
      clear hb1 hB1
      go_wp2_with (at_builtin; refine wpList_append_own _ rfl (.tmp 19) (.tmp 21) 31 rfl w.heap.size 9 i0 (.string ⟨#[]⟩) 1 16 Try.underlying31 hi hz0 hz1 hz2 rfl (by decide) _ _ _ rfl (HO1.out.alloc _) ⟨w1.heap.size, 0, none⟩ 1 1 [.string s] rfl rfl (one_at _ _ _) (one_str _) (by unfold maxLen; omega) (by omega) (by simp; omega) ?_; intro v3 w3 hown3 hg3 _; have HB3 := Lib.hid (below_app HB1.out (Nat.le_refl _) HO1.out hg3); have HO3 := Lib.hid (own_snocS hown3); clear hown3 hg3)
      go_roundw
      case rel =>
        refine ⟨l ++ [s], y, by rw [List.length_append]; exact HO3.out, rfl, hle, by have := HY.out; simp; omega, Lib.hid ?_, HB3.out⟩
        rw [HF.out]
        obtain ⟨f, hf'⟩ : ∃ f, b.size - l.length = f + 1 := ⟨b.size - l.length - 1, by omega⟩
        rw [hf', HN.out, List.length_append, show b.size - (l.length + [s].length) = f by simp; omega, List.append_assoc]
        rfl
      case measure => simp [intOf]; omega
end Go.Proofs.Ytcjejbnogghkcaa.Dk
