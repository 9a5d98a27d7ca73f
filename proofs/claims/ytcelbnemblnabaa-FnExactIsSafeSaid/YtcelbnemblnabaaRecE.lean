/-
  The laws' helpers on records: eqRec at equal records, markRec, heldRec.
-/
import Derived.Test.YtcelbnemblnabaaRec
import Derived.Test.YtcelbnemblnabaaMarkS
namespace Go.Proofs.Ytcelbnemblnabaa
open Go.RowKit CM
set_option linter.unusedVariables false

theorem alloc2_a (w : World) (o1 o2 : Obj) : ((w.alloc o1).alloc o2).heap[w.heap.size]? = some o1 :=
  (Below.heap_alloc _ _ _ (by simp)).trans (heap_alloc_new w o1)
theorem alloc2_b (w : World) (o1 o2 : Obj) : ((w.alloc o1).alloc o2).heap[w.heap.size + 1]? = some o2 := by
  have h := heap_alloc_new (w.alloc o1) o2
  rwa [show (w.alloc o1).heap.size = w.heap.size + 1 by simp] at h

set_option maxRecDepth 100000 in
set_option maxHeartbeats 1000000 in
theorem eqRec_same (k t tm ld : Int) (y : Bool) (nr nw : Nat) (rs : List ByteArray) (ws : List (ByteArray × ByteArray × Bool)) (Ar Ar' Aw Aw' : Option Addr) (cr cr' cw cw' : Nat) (B : Nat) (w : World) (hnr : rs.length = nr) (hr : StrsB w B Ar rs) (hr' : StrsB w B Ar' rs) (hnw : ws.length = nw) (hw : WritesB w B Aw ws) (hw' : WritesB w B Aw' ws) (hB : B ≤ w.heap.size) (hlr : nr ≤ 1048576) (hlw : nw ≤ 1048576) :
    Calls Try.prog 55 #[.agg #[.int .i64 k, .int .i64 t, .int .i64 tm, .int .i64 ld, .slice Ar nr cr, .slice Aw nw cw, .bool y], .agg #[.int .i64 k, .int .i64 t, .int .i64 tm, .int .i64 ld, .slice Ar' nr cr', .slice Aw' nw cw', .bool y]] w fun e w' => e = .returned (.bool true) ∧ Below w.heap.size w w' := by
  have HC := Lib.hid (fun W (hW : StrsB W B Ar rs) (hW' : StrsB W B Ar' rs) (hB : B ≤ W.heap.size) => eqStringS_same Ar Ar' nr cr cr' rs B W hnr hW hW' hB hlr)
  have HU := Lib.hid (fun W (hW : WritesB W B Aw ws) (hW' : WritesB W B Aw' ws) (hB : B ≤ W.heap.size) => eqWriteS_same Aw Aw' nw cw cw' ws B W hnw hW hW' hB hlw)
  have H1 := Lib.hid hr
  have H2 := Lib.hid hr'
  have H3 := Lib.hid hw
  have H4 := Lib.hid hw'
  clear hr hr' hw hw' hnr hnw
  go_enter Try.func55, Try.ntmps55
  go_wp2_with fail
  have hb3 := below2 w (.cells #[.int .i64 k, .int .i64 t, .int .i64 tm, .int .i64 ld, .slice Ar nr cr, .slice Aw nw cw, .bool y] 52) (.cells #[.int .i64 k, .int .i64 t, .int .i64 tm, .int .i64 ld, .slice Ar' nr cr', .slice Aw' nw cw', .bool y] 52)
  refine (HC.out _ (H1.out.below (hb3.mono hB)) (H2.out.below (hb3.mono hB)) (Nat.le_trans hB hb3.size)).mono ?_
  rintro e w4 ⟨rfl, hb4⟩
  have ka := (hb4.block w.heap.size (by simp; omega)).trans (alloc2_a _ _ _)
  have kb := (hb4.block (w.heap.size + 1) (by simp)).trans (alloc2_b _ _ _)
  have a5 := cell_blk (i := 5) ka rfl
  have b5 := cell_blk (i := 5) kb rfl
  have HB := Lib.hid (hb3.trans (hb4.mono hb3.size))
  have KA := Lib.hid ka
  have KB := Lib.hid kb
  clear hb3 hb4 ka kb
  go_wp2_with fail
  refine (HU.out _ (H3.out.below (HB.out.mono hB)) (H4.out.below (HB.out.mono hB)) (Nat.le_trans hB HB.out.size)).mono ?_
  rintro e w5 ⟨rfl, hb5⟩
  have ka := (hb5.block w.heap.size (lt_blk KA.out)).trans KA.out
  have kb := (hb5.block (w.heap.size + 1) (lt_blk KB.out)).trans KB.out
  have a6 := cell_blk (i := 6) ka rfl
  have b6 := cell_blk (i := 6) kb rfl
  have HB5 := Lib.hid (HB.out.trans (hb5.mono HB.out.size))
  clear hb5 ka kb a5 b5
  go_wp2
  go_ret
  exact ⟨rfl, HB5.out⟩

theorem MidA.below' {A : Option Addr} {w w' : World} (h : MidA A w w') {B : Nat} (hA : ∀ x, A = some x → B ≤ x.block) (hB : B ≤ w.heap.size) : Below B w w' :=
  ⟨h.1, h.2.1, h.2.2.1, h.2.2.2.1, fun k hk => h.2.2.2.2 k (by omega) (fun x hx => by have := hA x hx; omega)⟩
/-- Marks over a record: both slices are written, each in its own block. -/
def MarkRPost (k lo m hi : Nat) (nr nw : Nat) (Ar Aw : Option Addr) (cr cw : Nat) (w : World) (e : Ending) (w' : World) : Prop :=
  e = .returned (.int .i64 ((k + nr + 3 * nw : Nat) : Int)) ∧ OwnS w' lo m Ar cr (mStrs k nr) ∧ OwnW w' m hi Aw cw (mWrs (k + nr) nw) ∧ Below lo w w' ∧ Mid lo hi w w'

end Go.Proofs.Ytcelbnemblnabaa
