/-
  What a law over entries, disks and houses is handed, as data.
-/
import Derived.Test.YtkhndofplebcaaaGrSeen
namespace Go.Proofs.Ytkhndofplebcaaa.Hs
open Go.ChangeShapes Go.WideShapes Go.RowKit Go.Deep Go.Joins Gr
set_option linter.unusedVariables false
section
variable {H : Type} {enc : TypeId × Value → H} {w : World} {base : Nat} {spare : Nat → Bool} {held : Bool}
theorem view_ent {fuel : Nat} {cs : Array Value} {x : DataW H × List MemPlace} (h : DataW.trod enc Try.prog w base spare held fuel 27 cs.toList = some x) :
    ∃ (tm k t x l : Int) (y : Bool) (Ar : Option Addr) (nr cr : Nat) (rs : List ByteArray) (Aw : Option Addr) (nw cw : Nat) (ws : List (ByteArray × ByteArray × Bool)), cs = #[.int .i64 tm, .int .i64 k, .int .i64 t, .int .i64 x, .int .i64 l, .slice Ar nr cr, .slice Aw nw cw, .bool y] ∧ rs.length = nr ∧ StrsB w w.heap.size Ar rs ∧ SMax rs ∧ ws.length = nw ∧ WritesB w w.heap.size Aw ws ∧ WMax ws := by
  have h8 : cs.toList.length = 8 := by
    obtain ⟨_, _, _, _, h1, _, _⟩ := trod_struct2 Try.underlying27 h
    have h2 : Try.prog.cellsOf 27 = 8 := by kernel_rfl
    omega
  obtain ⟨e, ⟨hm, hr⟩, hc⟩ := view_entry h8 h
  obtain ⟨l⟩ := cs
  simp only at hc
  subst hc
  exact ⟨e.d.tm, e.d.k, e.d.t, e.d.x, e.d.l, e.d.y, e.Ar, e.d.rs.length, e.cr, e.d.rs, e.Aw, e.d.ws.length, e.cw, e.d.ws, rfl, rfl, hr.1, hm.1, rfl, hr.2, hm.2⟩
end
end Go.Proofs.Ytkhndofplebcaaa.Hs
