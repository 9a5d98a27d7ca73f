/-
  Contracts for markNet and heldNet.
-/
import Derived.Test.YtojplmjoipjabaaNtMk
namespace Go.Proofs.Ytojplmjoipjabaa.Nt
open Go.RowKit
set_option linter.unusedVariables false
set_option linter.unusedSimpArgs false

/-- Rows of different element types lie in different blocks. -/
theorem own_apart {w : World} {lo hi lo' hi' sz sz' cap cap' : Nat} {t t' : TypeId} {A A' : Option Addr} {L L' : List (List Value)} (h : Own w lo hi t sz A cap L) (h' : Own w lo' hi' t' sz' A' cap' L') (ht : t ≠ t') (x y : Addr) (hx : A = some x) (hy : A' = some y) : x.block ≠ y.block := by
  intro e
  obtain ⟨_, _, c1, k1⟩ := h.block x hx
  obtain ⟨_, _, c2, k2⟩ := h'.block y hy
  rw [e, k2] at k1
  simp only [Option.some.injEq, Obj.cells.injEq] at k1
  exact ht k1.2.1.symm
theorem own_range {w : World} {lo hi sz cap : Nat} {t : TypeId} {A : Option Addr} {L : List (List Value)} (h : Own w lo hi t sz A cap L) (x : Addr) (hx : A = some x) : lo ≤ x.block ∧ x.block < hi := ⟨(h.block x hx).1, (h.block x hx).2.1⟩

set_option maxHeartbeats 1000000 in
theorem markNet_any (now far : Int) (A A' : Option Addr) (n cap n' cap' k lo hi : Nat) (is : List Int) (ls : List (Int × Int × Int × ByteArray)) (w : World) (hn : is.length = n) (hn' : ls.length = n') (h : OwnI w lo hi A cap is) (h' : OwnL w lo hi A' cap' ls) (hh : hi ≤ w.heap.size) (hlo : lo ≤ hi) (hk1 : 1 ≤ k) (hk : k + n + 4 * n' ≤ 1000000000) :
    Calls Try.prog 60 #[.agg #[.int .i64 now, .slice A n cap, .int .i64 far, .slice A' n' cap'], .int .i64 (k : Int)] w fun e w' => e = .returned (.int .i64 ((k + n + 4 * n' : Nat) : Int)) ∧ OwnI w' lo hi A cap (mInts k n) ∧ OwnL w' lo hi A' cap' (mLts (k + n) n') ∧ Mid lo hi w w' := by
  have hb0 := below1 w (.cells #[.int .i64 now, .slice A n cap, .int .i64 far, .slice A' n' cap'] 35)
  have hbk := heap_alloc_new w (.cells #[.int .i64 now, .slice A n cap, .int .i64 far, .slice A' n' cap'] 35)
  have h1 := h.below (hb0.mono hh)
  have h2 := h'.below (hb0.mono hh)
  have HI := Lib.hid (markIntS_any A n cap k lo hi is _ hn h1 hk1 (by omega))
  have HH2 := Lib.hid h2
  have HL := Lib.hid (fun W (hW : OwnL W lo hi A' cap' ls) => markLetterS_any A' n' cap' (k + n) lo hi ls W hn' hW (by omega) hk)
  have hm0 : Mid lo hi w (w.alloc (.cells #[.int .i64 now, .slice A n cap, .int .i64 far, .slice A' n' cap'] 35)) := Below.mid hb0
  obtain ⟨q, hq⟩ : ∃ q, q = k + n := ⟨_, rfl⟩
  rw [← hq] at HI HL ⊢
  have HM0 := Lib.hid hm0
  have HBK := Lib.hid hbk
  have HH1 := Lib.hid h1
  clear h h' h1 h2 hb0 hm0 hbk hn hn' hq hk
  go_enter Try.func60, Try.ntmps60
  go_wp2_with fail
  refine HI.out.mono ?_
  rintro e w1 ⟨rfl, ho1, hm1⟩
  have hl1 := Own.midA HH2.out hm1 (own_apart HH1.out HH2.out (by decide))
  have hmm := hm1.mid (lo := lo) (hi := hi) (own_range HH1.out)
  have HM1 := Lib.hid (HM0.out.trans hmm)
  have hkb := (hmm.2.2.2.2 w.heap.size (by simp) (.inr hh)).trans HBK.out
  have y1 := cell_of_row _ _ 1 _ 35 (0, 0) hkb
  have y3 := cell_of_row _ _ 3 _ 35 (0, 0) hkb
  have HC2 := Lib.hid (HL.out w1 hl1)
  have HHL := Lib.hid hl1
  have HO1 := Lib.hid ho1
  clear HI HL hmm hm1 hkb hl1 ho1
  go_wp2_with fail
  refine HC2.out.mono ?_
  rintro e w2 ⟨rfl, ho2, hm2⟩
  have HO1b := Lib.hid (Own.midA HO1.out hm2 (own_apart HHL.out HO1.out (by decide)))
  have HM2 := Lib.hid (HM1.out.trans (hm2.mid (lo := lo) (hi := hi) (own_range HHL.out)))
  have HO2 := Lib.hid ho2
  clear hm2 ho2
  go_wp2
  go_ret
  exact ⟨rfl, HO1b.out, HO2.out, HM2.out⟩

set_option maxHeartbeats 1000000 in
theorem heldNet_any (now far : Int) (A A' : Option Addr) (n c n' c' k B : Nat) (w : World) (h : IntsB w B A (mInts k n)) (h' : LetsB w B A' (mLts (k + n) n')) (hB : B ≤ w.heap.size) (hk1 : 1 ≤ k) (hk : k + n + 4 * n' ≤ 1000000000) :
    Calls Try.prog 63 #[.agg #[.int .i64 now, .slice A n c, .int .i64 far, .slice A' n' c'], .int .i64 (k : Int)] w fun e w' => e = .returned (.int .i64 ((k + n + 4 * n' : Nat) : Int)) ∧ Below w.heap.size w w' := by
  have hb0 := below1 w (.cells #[.int .i64 now, .slice A n c, .int .i64 far, .slice A' n' c'] 35)
  have HI := Lib.hid (fun W (hW : Below w.heap.size w W) => heldIntS_any A n c k B W (h.below (hW.mono hB)) (Nat.le_trans hB hW.size) hk1 (by omega))
  have HL := Lib.hid (fun W (hW : Below w.heap.size w W) => heldLetterS_any A' n' c' (k + n) B W (h'.below (hW.mono hB)) (Nat.le_trans hB hW.size) (by omega) hk)
  obtain ⟨q, hq⟩ : ∃ q, q = k + n := ⟨_, rfl⟩
  rw [← hq] at HI HL ⊢
  have HB0 := Lib.hid hb0
  have q0 : (0 : Int) ≤ ((q : Nat) : Int) := by omega
  have q1 : (0 : Int) ≤ ((q + 4 * n' : Nat) : Int) := by omega
  obtain ⟨r, hr⟩ : ∃ r, r = q + 4 * n' := ⟨_, rfl⟩
  rw [← hr] at HL q1 ⊢
  clear h h' hb0 hr hq hk
  go_enter Try.func63, Try.ntmps63
  go_wp2_with fail
  refine (HI.out _ HB0.out).mono ?_
  rintro e w1 ⟨rfl, rfl⟩
  go_wp2_with fail
  refine (HL.out _ HB0.out).mono ?_
  rintro e w2 ⟨rfl, hb2⟩
  have HB := Lib.hid (HB0.out.trans (hb2.mono HB0.out.size))
  clear hb2
  go_wp2
  go_ret
  exact ⟨rfl, HB.out⟩
end Go.Proofs.Ytojplmjoipjabaa.Nt
