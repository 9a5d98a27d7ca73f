/-
  What a law over polls is handed, as data.
-/
import Derived.Test.YtojplmjoipjabaaNtSeen
import Derived.Test.YtojplmjoipjabaaPoMem
import Derived.Deep.Strs
namespace Go.Proofs.Ytojplmjoipjabaa.Po
open Go.ChangeShapes Go.WideShapes Go.RowKit Go.Deep Go.Joins Nt
set_option linter.unusedVariables false

section
variable {H : Type} {enc : TypeId × Value → H} {w : World} {base : Nat} {spare : Nat → Bool} {held : Bool}
theorem list5 {r : List Value} {a b c d e : Value} (hl : r.length = 5) (h0 : r[0]? = some a) (h1 : r[1]? = some b) (h2 : r[2]? = some c) (h3 : r[3]? = some d) (h4 : r[4]? = some e) : r = [a, b, c, d, e] := by
  rcases r with _ | ⟨x, _ | ⟨y, _ | ⟨z, _ | ⟨u, _ | ⟨v, _ | ⟨o, r⟩⟩⟩⟩⟩⟩ <;> simp_all
theorem view_wons {fuel len cap : Nat} {a : Option Addr} {x : DataW H × List MemPlace} (h : DataW.trod enc Try.prog w base spare held fuel 27 [.slice a len cap] = some x) :
    ∃ ws : List (Int × Int), ws.length = len ∧ len ≤ maxLen ∧ WonB w w.heap.size a ws := by
  obtain ⟨a', len', cap', L, hcs, hlen, hmx, hrow, hfs⟩ := row_view Try.underlying27 Try.underlying110 (by kernel_rfl) (by kernel_rfl) (by simp) h
  simp only [List.cons.injEq, Value.slice.injEq, and_true] at hcs
  obtain ⟨rfl, rfl, rfl⟩ := hcs
  obtain ⟨xs, h1, h2, h3⟩ := choose_list (α := Int × Int) (Q := fun x => True) (f := wonCs) L fun r hr => by
    obtain ⟨hl, hf⟩ := hfs r hr
    obtain ⟨v0, y0, n0, e0, t0⟩ := hf 0 _ rfl
    obtain ⟨v1, y1, n1, e1, t1⟩ := hf 1 _ rfl
    obtain ⟨s0, k0, _⟩ := DataW.trod_int Try.underlying3 t0
    obtain ⟨s1, k1, _⟩ := DataW.trod_int Try.underlying3 t1
    simp only [List.cons.injEq, and_true] at k0 k1
    subst k0 k1
    exact ⟨(s0, s1), trivial, list2 hl e0 e1⟩
  refine ⟨xs, h1.trans hlen, hmx, ?_⟩
  unfold WonB
  rw [h2]
  exact hrow.toB
theorem view_vots {fuel len cap : Nat} {a : Option Addr} {x : DataW H × List MemPlace} (h : DataW.trod enc Try.prog w base spare held fuel 22 [.slice a len cap] = some x) :
    ∃ hs : List ((Bool × Int × Int × Bool) × Option Addr × Nat × List Int), hs.length = len ∧ len ≤ maxLen ∧ VotB w w.heap.size a hs ∧ VtMax hs := by
  obtain ⟨a', len', cap', L, hcs, hlen, hmx, hrow, hfs⟩ := row_view Try.underlying22 Try.underlying103 (by kernel_rfl) (by kernel_rfl) (by simp) h
  simp only [List.cons.injEq, Value.slice.injEq, and_true] at hcs
  obtain ⟨rfl, rfl, rfl⟩ := hcs
  obtain ⟨xs, h1, h2, h3⟩ := choose_list (α := ((Bool × Int × Int × Bool) × Option Addr × Nat × List Int)) (Q := fun x => x.2.2.2.length ≤ maxLen ∧ IntsB w w.heap.size x.2.1 x.2.2.2) (f := vtCs) L fun r hr => by
    obtain ⟨hl, hf⟩ := hfs r hr
    obtain ⟨v0, y0, n0, e0, t0⟩ := hf 0 _ rfl
    obtain ⟨v1, y1, n1, e1, t1⟩ := hf 1 _ rfl
    obtain ⟨v2, y2, n2, e2, t2⟩ := hf 2 _ rfl
    obtain ⟨v3, y3, n3, e3, t3⟩ := hf 3 _ rfl
    obtain ⟨v4, y4, n4, e4, t4⟩ := hf 4 _ rfl
    obtain ⟨s0, k0, _⟩ := DataW.trod_bool Try.underlying4 t0
    obtain ⟨s1, k1, _⟩ := DataW.trod_int Try.underlying3 t1
    obtain ⟨s2, k2, _⟩ := DataW.trod_int Try.underlying3 t2
    obtain ⟨s4, k4, _⟩ := DataW.trod_bool Try.underlying4 t4
    obtain ⟨ad, le, cp, rfl⟩ := trod_slice_form Try.underlying23 t3
    obtain ⟨is, g1, g2, g3⟩ := view_ints t3
    simp only [List.cons.injEq, and_true] at k0 k1 k2 k4
    subst k0 k1 k2 k4 g1
    exact ⟨((s0, s1, s2, s4), ad, cp, is), ⟨g2, g3⟩, list5 hl e0 e1 e2 e3 e4⟩
  refine ⟨xs, h1.trans hlen, hmx, ⟨?_, fun h hh => (h3 h hh).2⟩, by rw [h1, hlen]; exact hmx, fun h hh => (h3 h hh).1⟩
  rw [h2]
  exact hrow.toB
theorem split6 {cs : List Value} (hl : cs.length = 6) : ∃ a b c d e f, cs = [a, b, c, d, e, f] := by
  rcases cs with _ | ⟨a, _ | ⟨b, _ | ⟨c, _ | ⟨d, _ | ⟨e, _ | ⟨f, _ | ⟨o, r⟩⟩⟩⟩⟩⟩⟩ <;> first | exact ⟨_, _, _, _, _, _, rfl⟩ | simp at hl
theorem view_poll {fuel : Nat} {cs : Array Value} {x : DataW H × List MemPlace} (h : DataW.trod enc Try.prog w base spare held fuel 29 cs.toList = some x) :
    ∃ (A : Option Addr) (n c : Nat) (hs : List ((Bool × Int × Int × Bool) × Option Addr × Nat × List Int)) (now far : Int) (A1 : Option Addr) (n1 c1 : Nat) (is : List Int) (A2 : Option Addr) (n2 c2 : Nat) (ls : List (Int × Int × Int × ByteArray)) (A3 : Option Addr) (n3 c3 : Nat) (ws : List (Int × Int)),
      cs = #[.slice A n c, .int .i64 now, .slice A1 n1 c1, .int .i64 far, .slice A2 n2 c2, .slice A3 n3 c3] ∧ hs.length = n ∧ VotB w w.heap.size A hs ∧ VtMax hs ∧ is.length = n1 ∧ IntsB w w.heap.size A1 is ∧ n1 ≤ maxLen ∧ ls.length = n2 ∧ LetsB w w.heap.size A2 ls ∧ LMax ls ∧ ws.length = n3 ∧ WonB w w.heap.size A3 ws ∧ n3 ≤ maxLen := by
  obtain ⟨y0, y1, y2, n', _, hlen, t0, t1, t2⟩ := trod_struct3 Try.underlying29 h
  have h6 : cs.toList.length = 6 := by rw [hlen]; kernel_rfl
  have c0 : Try.prog.cellsOf 22 = 1 := by kernel_rfl
  have c1 : Try.prog.cellsOf 26 = 4 := by kernel_rfl
  have c2 : Try.prog.cellsOf 27 = 1 := by kernel_rfl
  obtain ⟨l⟩ := cs
  simp only at h6 t0 t1 t2
  obtain ⟨a, b, c, d, e, f, rfl⟩ := split6 h6
  have u0 : DataW.trod enc Try.prog w base spare held n' 22 [a] = some y0 := by simpa [c0] using t0
  have u1 : DataW.trod enc Try.prog w base spare held n' 26 (#[b, c, d, e] : Array Value).toList = some y1 := by simpa [c1] using t1
  have u2 : DataW.trod enc Try.prog w base spare held n' 27 [f] = some y2 := by simpa [c2] using t2
  obtain ⟨aA, lA, cA, rfl⟩ := trod_slice_form Try.underlying22 u0
  obtain ⟨aW, lW, cW, rfl⟩ := trod_slice_form Try.underlying27 u2
  obtain ⟨hs, g1, g2, g3, g4⟩ := view_vots u0
  obtain ⟨ws, k1, k2, k3⟩ := view_wons u2
  obtain ⟨now, far, A1, n1, c1', is, A2, n2, c2', ls, e0, e1, e2, e3, e4, e5, e6⟩ := view_net u1
  simp only [Array.mk.injEq, List.cons.injEq, and_true] at e0
  obtain ⟨rfl, rfl, rfl, rfl⟩ := e0
  exact ⟨aA, lA, cA, hs, now, far, A1, n1, c1', is, A2, n2, c2', ls, aW, lW, cW, ws, rfl, g1, g3, g4, e1, e2, e3, e4, e5, e6, k1, k3, k2⟩
end
end Go.Proofs.Ytojplmjoipjabaa.Po
