/-
  The laws' helpers on records: eqRec at equal records, markRec, heldRec.
-/
import Derived.Test.YtkhndofplebcaaaRec
import Derived.Test.YtkhndofplebcaaaMarkS
namespace Go.Proofs.Ytkhndofplebcaaa
open Go.RowKit CM
set_option linter.unusedVariables false

theorem alloc2_a (w : World) (o1 o2 : Obj) : ((w.alloc o1).alloc o2).heap[w.heap.size]? = some o1 :=
  (Below.heap_alloc _ _ _ (by simp)).trans (heap_alloc_new w o1)
theorem alloc2_b (w : World) (o1 o2 : Obj) : ((w.alloc o1).alloc o2).heap[w.heap.size + 1]? = some o2 := by
  have h := heap_alloc_new (w.alloc o1) o2
  rwa [show (w.alloc o1).heap.size = w.heap.size + 1 by simp] at h

set_option maxRecDepth 100000 in
set_option maxHeartbeats 1000000 in
theorem eqRec_same (k t tm ld : Int) (y : Bool) (nr nw : Nat) (rs : List ByteArray) (ws : List (ByteArray × ByteArray × Bool)) (Ar Ar' Aw Aw' : Option Addr) (cr cr' cw cw' : Nat) (B : Nat) (w : World) (hnr : rs.length = nr) (hr : StrsB w B Ar rs) (hr' : StrsB w B Ar' rs) (hnw : ws.length = nw) (hw : WritesB w B Aw ws) (hw' : WritesB w B Aw' ws) (hB : B ≤ w.heap.size) (hlr : nr ≤ 1048576) (hlw : nw ≤ 1048576) :
    Calls Try.prog 30 #[.agg #[.int .i64 k, .int .i64 t, .int .i64 tm, .int .i64 ld, .slice Ar nr cr, .slice Aw nw cw, .bool y], .agg #[.int .i64 k, .int .i64 t, .int .i64 tm, .int .i64 ld, .slice Ar' nr cr', .slice Aw' nw cw', .bool y]] w fun e w' => e = .returned (.bool true) ∧ Below w.heap.size w w' := by
  have HC := Lib.hid (fun W (hW : StrsB W B Ar rs) (hW' : StrsB W B Ar' rs) (hB : B ≤ W.heap.size) => eqStringS_same Ar Ar' nr cr cr' rs B W hnr hW hW' hB hlr)
  have HU := Lib.hid (fun W (hW : WritesB W B Aw ws) (hW' : WritesB W B Aw' ws) (hB : B ≤ W.heap.size) => eqWriteS_same Aw Aw' nw cw cw' ws B W hnw hW hW' hB hlw)
  have H1 := Lib.hid hr
  have H2 := Lib.hid hr'
  have H3 := Lib.hid hw
  have H4 := Lib.hid hw'
  clear hr hr' hw hw' hnr hnw
  go_enter Try.func30, Try.ntmps30
  go_wp2_with fail
  have hb3 := below2 w (.cells #[.int .i64 k, .int .i64 t, .int .i64 tm, .int .i64 ld, .slice Ar nr cr, .slice Aw nw cw, .bool y] 33) (.cells #[.int .i64 k, .int .i64 t, .int .i64 tm, .int .i64 ld, .slice Ar' nr cr', .slice Aw' nw cw', .bool y] 33)
  refine (HC.out _ (H1.out.below (hb3.mono hB)) (H2.out.below (hb3.mono hB)) (Nat.le_trans hB hb3.size)).mono ?_
  rintro e w4 ⟨rfl, hb4⟩
  have ka := (hb4.block w.heap.size (by simp; omega)).trans (alloc2_a _ _ _)
  have kb := (hb4.block (w.heap.size + 1) (by simp)).trans (alloc2_b _ _ _)
  have a5 := cell_blk (i := 5) ka rfl
  have b5 := cell_blk (i := 5) kb rfl
  have HB := Lib.hid (hb3.trans (hb4.mono hb3.size))
  have KA := Lib.hid ka
  have KB := Lib.hid kb
  clear hb3 hb4 ka kb
  go_wp2_with fail
  refine (HU.out _ (H3.out.below (HB.out.mono hB)) (H4.out.below (HB.out.mono hB)) (Nat.le_trans hB HB.out.size)).mono ?_
  rintro e w5 ⟨rfl, hb5⟩
  have ka := (hb5.block w.heap.size (lt_blk KA.out)).trans KA.out
  have kb := (hb5.block (w.heap.size + 1) (lt_blk KB.out)).trans KB.out
  have a6 := cell_blk (i := 6) ka rfl
  have b6 := cell_blk (i := 6) kb rfl
  have HB5 := Lib.hid (HB.out.trans (hb5.mono HB.out.size))
  clear hb5 ka kb a5 b5
  go_wp2
  go_ret
  exact ⟨rfl, HB5.out⟩

theorem MidA.below' {A : Option Addr} {w w' : World} (h : MidA A w w') {B : Nat} (hA : ∀ x, A = some x → B ≤ x.block) (hB : B ≤ w.heap.size) : Below B w w' :=
  ⟨h.1, h.2.1, h.2.2.1, h.2.2.2.1, fun k hk => h.2.2.2.2 k (by omega) (fun x hx => by have := hA x hx; omega)⟩
/-- Marks over a record: both slices are written, each in its own block. -/
def MarkRPost (k lo m hi : Nat) (nr nw : Nat) (Ar Aw : Option Addr) (cr cw : Nat) (w : World) (e : Ending) (w' : World) : Prop :=
  e = .returned (.int .i64 ((k + nr + 3 * nw : Nat) : Int)) ∧ OwnS w' lo m Ar cr (mStrs k nr) ∧ OwnW w' m hi Aw cw (mWrs (k + nr) nw) ∧ Below lo w w' ∧ Mid lo hi w w'

set_option maxRecDepth 100000 in
set_option maxHeartbeats 1000000 in
theorem markRec_any (a1 a2 a3 a4 : Int) (y : Bool) (k : Nat) (nr nw : Nat) (rs : List ByteArray) (ws : List (ByteArray × ByteArray × Bool)) (Ar Aw : Option Addr) (cr cw lo m hi : Nat) (w : World) (hnr : rs.length = nr) (hr : OwnS w lo m Ar cr rs) (hnw : ws.length = nw) (hw : OwnW w m hi Aw cw ws) (h1 : lo ≤ m) (hmh : m ≤ hi) (h2 : m ≤ w.heap.size) (h3 : hi ≤ w.heap.size) (hk1 : 1 ≤ k) (hk : k + nr + 3 * nw ≤ 1000000000) :
    Calls Try.prog 32 #[.agg #[.int .i64 a1, .int .i64 a2, .int .i64 a3, .int .i64 a4, .slice Ar nr cr, .slice Aw nw cw, .bool y], .int .i64 (k : Int)] w (MarkRPost k lo m hi nr nw Ar Aw cr cw w) := by
  have HC := Lib.hid (fun W (hW : OwnS W lo m Ar cr rs) => markStringS_any Ar nr cr k lo m rs W hnr hW hk1 (by omega))
  have HU := Lib.hid (fun W (hW : OwnW W m hi Aw cw ws) => markWriteS_any Aw nw cw (k + nr) m hi ws W hnw hW (by omega) hk)
  have H1 := Lib.hid hr
  have H3 := Lib.hid hw
  clear hr hw hnr hnw
  go_enter Try.func32, Try.ntmps32
  go_wp2_with fail
  have hb1 := below1 w (.cells #[.int .i64 a1, .int .i64 a2, .int .i64 a3, .int .i64 a4, .slice Ar nr cr, .slice Aw nw cw, .bool y] 33)
  have kn := heap_alloc_new w (.cells #[.int .i64 a1, .int .i64 a2, .int .i64 a3, .int .i64 a4, .slice Ar nr cr, .slice Aw nw cw, .bool y] 33)
  refine (HC.out _ (H1.out.below (hb1.mono h2))).mono ?_
  rintro e w1 ⟨rfl, ho1, hm1⟩
  have hAr : ∀ x, Ar = some x → lo ≤ x.block ∧ x.block < m := fun x hx => by have := H1.out.block x hx; omega
  have hAw : ∀ x, Aw = some x → m ≤ x.block ∧ x.block < hi := fun x hx => by have := H3.out.block x hx; omega
  have kb := (hm1.2.2.2.2 w.heap.size (by simp) (fun x hx => by have := (hAr x hx).2; omega)).trans kn
  have b5 := cell_blk (i := 5) kb rfl
  have hw1 := (H3.out.below (hb1.mono h3)).midA hm1 (fun x y hx hy => by have := (hAr x hx).2; have := (hAw y hy).1; omega)
  have hbl := hb1.mono (Nat.le_trans h1 h2) |>.trans (hm1.below' (B := lo) (fun x hx => (hAr x hx).1) (Nat.le_trans (Nat.le_trans h1 h2) hb1.size))
  have hmid := (Below.mid (lo := lo) (hi := hi) hb1).trans (hm1.mid (fun x hx => by have := hAr x hx; omega))
  have HO1 := Lib.hid ho1
  have HW1 := Lib.hid hw1
  have HB := Lib.hid hbl
  have HMD := Lib.hid hmid
  have HAW := Lib.hid hAw
  have HAR := Lib.hid hAr
  clear hb1 kn ho1 hm1 hAr hAw kb hw1 hbl hmid
  go_wp2_with fail
  refine (HU.out _ HW1.out).mono ?_
  rintro e w2 ⟨rfl, ho2, hm2⟩
  have HF := Lib.hid (show MarkRPost k lo m hi nr nw Ar Aw cr cw w (.returned (.int .i64 ((k + nr + 3 * nw : Nat) : Int))) w2 from
    ⟨rfl, HO1.out.midA hm2 (fun x y hx hy => by have := (HAW.out x hx).1; have := (HAR.out y hy).2; omega), ho2, HB.out.trans (hm2.below' (fun x hx => by have := (HAW.out x hx).1; omega) (Nat.le_trans (Nat.le_trans h1 h2) HB.out.size)), HMD.out.trans (hm2.mid (fun x hx => by have := HAW.out x hx; omega))⟩)
  clear ho2 hm2
  go_wp2
  go_ret
  exact HF.out

set_option maxRecDepth 100000 in
set_option maxHeartbeats 1000000 in
theorem heldRec_any (a1 a2 a3 a4 : Int) (y : Bool) (k : Nat) (nr nw : Nat) (Ar Aw : Option Addr) (cr cw B : Nat) (w : World) (hr : StrsB w B Ar (mStrs k nr)) (hw : WritesB w B Aw (mWrs (k + nr) nw)) (hB : B ≤ w.heap.size) (hk1 : 1 ≤ k) (hk : k + nr + 3 * nw ≤ 1000000000) :
    Calls Try.prog 48 #[.agg #[.int .i64 a1, .int .i64 a2, .int .i64 a3, .int .i64 a4, .slice Ar nr cr, .slice Aw nw cw, .bool y], .int .i64 (k : Int)] w fun e w' => e = .returned (.int .i64 ((k + nr + 3 * nw : Nat) : Int)) ∧ Below w.heap.size w w' := by
  have HC := Lib.hid (fun W (hW : StrsB W B Ar (mStrs k nr)) (hB : B ≤ W.heap.size) => heldStringS_any Ar nr cr k B W hW hB hk1 (by omega))
  have HU := Lib.hid (fun W (hW : WritesB W B Aw (mWrs (k + nr) nw)) (hB : B ≤ W.heap.size) => heldWriteS_any Aw nw cw (k + nr) B W hW hB (by omega) hk)
  have H1 := Lib.hid hr
  have H3 := Lib.hid hw
  clear hr hw
  go_enter Try.func48, Try.ntmps48
  go_wp2_with fail
  have hb1 := below1 w (.cells #[.int .i64 a1, .int .i64 a2, .int .i64 a3, .int .i64 a4, .slice Ar nr cr, .slice Aw nw cw, .bool y] 33)
  have kn := heap_alloc_new w (.cells #[.int .i64 a1, .int .i64 a2, .int .i64 a3, .int .i64 a4, .slice Ar nr cr, .slice Aw nw cw, .bool y] 33)
  refine (HC.out _ (H1.out.below (hb1.mono hB)) (Nat.le_trans hB hb1.size)).mono ?_
  rintro e w1 ⟨rfl, hb2⟩
  have kb := (hb2.block w.heap.size (by simp)).trans kn
  have b5 := cell_blk (i := 5) kb rfl
  have HB := Lib.hid (hb1.trans (hb2.mono hb1.size))
  clear hb1 hb2 kn kb
  go_wp2_with fail
  refine (HU.out _ (H3.out.below (HB.out.mono hB)) (Nat.le_trans hB HB.out.size)).mono ?_
  rintro e w2 ⟨rfl, hb3⟩
  go_wp2
  go_ret
  exact ⟨rfl, HB.out.trans (hb3.mono HB.out.size)⟩
end Go.Proofs.Ytkhndofplebcaaa
