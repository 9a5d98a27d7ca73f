/-
  What a law over groups is handed, as data.
-/
import Derived.Test.YtkhndofplebcaaaSeenR
import Derived.Test.YtkhndofplebcaaaGrMem
import Derived.Deep.Strs
namespace Go.Proofs.Ytkhndofplebcaaa.Gr
open Go.ChangeShapes Go.WideShapes Go.RowKit Go.Deep Go.Joins
set_option linter.unusedVariables false

section
variable {H : Type} {enc : TypeId × Value → H} {w : World} {base : Nat} {spare : Nat → Bool} {held : Bool}
/-- A slice of elements of C cells each, whatever they are: each reads on by its own cells. -/
theorem row_viewC {t e : TypeId} {C : Nat} {fuel : Nat} {cs : List Value} {x : DataW H × List MemPlace} (ht : Try.prog.underlying t = some (.slice e)) (hC : Try.prog.cellsOf e = C) (hz : 0 < C)
    (h : DataW.trod enc Try.prog w base spare held fuel t cs = some x) :
    ∃ (a : Option Addr) (len cap : Nat) (L : List (List Value)), cs = [.slice a len cap] ∧ L.length = len ∧ len ≤ maxLen ∧ RowAt w a C L ∧
      ∀ r ∈ L, r.length = C ∧ ∃ y n, DataW.trod enc Try.prog w base spare held n e r = some y := by
  rcases open_slice ht h with ⟨hcs, _⟩ | ⟨a', len, cap, m, n, D, Pl, hcs, _, hl, hm, hmm, _, hi⟩
  · exact ⟨none, 0, 0, [], hcs, rfl, by unfold maxLen; omega, .inl rfl, by simp⟩
  · have hle : len ≤ m := by rw [hmm]; split <;> omega
    rw [hC] at hi
    obtain ⟨F, hF⟩ := choose_lt (α := List Value) (n := len) (p := fun i r => (∀ j, j < C → w.cell? (a'.add (i * C + j)) = r[j]?) ∧ r.length = C ∧ ∃ y n, DataW.trod enc Try.prog w base spare held n e r = some y) (fun i hil => by
      obtain ⟨cs', hc, ht'⟩ := hi i (by omega)
      obtain ⟨_, hcl, hat⟩ := World.cells?_some hc
      refine ⟨cs', fun j hj => ?_, hcl, _, _, ht'⟩
      have := hat j hj
      rwa [Go.Deep.add_add] at this)
    refine ⟨some a', len, cap, (List.range len).map F, hcs, by simp, by omega, ?_, fun r hr => ?_⟩
    · rcases Nat.eq_zero_or_pos len with h0 | h0
      · subst h0; exact .inl (by simp)
      · obtain ⟨b, off, spot⟩ := a'
        obtain ⟨v0, hv0⟩ : ∃ v, (F 0)[0]? = some v := ⟨_, List.getElem?_eq_getElem (by rw [(hF 0 h0).2.1]; exact hz)⟩
        have hc0 := ((hF 0 h0).1 0 hz).trans hv0
        have hspot : spot = none := by simpa [Addr.add] using World.cell?_spot hc0
        subst hspot
        have hlt := World.block_lt_of_cell? w _ hc0
        refine .inr ⟨b, off, rfl, by simpa [Addr.add] using hlt, fun k hk i hi' => ?_⟩
        simp only [List.length_map, List.length_range] at hk
        have hk2 := (hF k hk).1 i hi'
        have hadd : ∀ j, (⟨b, off, none⟩ : Addr).add j = ⟨b, off + j, none⟩ := fun j => by unfold Addr.add; split <;> simp_all
        rw [hadd] at hk2
        simpa [Nat.add_assoc] using hk2
    · obtain ⟨i, hi', rfl⟩ := List.mem_map.1 hr
      exact (hF i (List.mem_range.1 hi')).2
theorem split8 {cs : List Value} (hl : cs.length = 8) : ∃ a b c d e f g h, cs = [a, b, c, d, e, f, g, h] := by
  rcases cs with _ | ⟨a, _ | ⟨b, _ | ⟨c, _ | ⟨d, _ | ⟨e, _ | ⟨f, _ | ⟨g, _ | ⟨h, _ | ⟨o, r⟩⟩⟩⟩⟩⟩⟩⟩⟩ <;> first | exact ⟨_, _, _, _, _, _, _, _, rfl⟩ | simp at hl
theorem view_entry {fuel : Nat} {r : List Value} {x : DataW H × List MemPlace} (h8 : r.length = 8) (h : DataW.trod enc Try.prog w base spare held fuel 27 r = some x) :
    ∃ e : EH, (EMax e ∧ EnR w w.heap.size e) ∧ r = enCs e := by
  obtain ⟨y0, y1, n', _, hlen, t0, t1⟩ := trod_struct2 Try.underlying27 h
  have c0 : Try.prog.cellsOf 3 = 1 := by kernel_rfl
  have c1 : Try.prog.cellsOf 25 = 7 := by kernel_rfl
  obtain ⟨a, b, c, d, e, f, g, i, rfl⟩ := split8 h8
  have u0 : DataW.trod enc Try.prog w base spare held n' 3 [a] = some y0 := by simpa [c0] using t0
  have u1 : DataW.trod enc Try.prog w base spare held n' 25 (#[b, c, d, e, f, g, i] : Array Value).toList = some y1 := by simpa [c1] using t1
  obtain ⟨s0, k0, _⟩ := DataW.trod_int Try.underlying3 u0
  obtain ⟨k, t, tm, ld, y, Ar, nr, cr, rs, Aw, nw, cw, ws, e0, e1, e2, e3, e4, e5, e6⟩ := view_rec u1
  simp only [List.cons.injEq, and_true] at k0
  simp only [Array.mk.injEq, List.cons.injEq, and_true] at e0
  obtain ⟨rfl, rfl, rfl, rfl, rfl, rfl, rfl⟩ := e0
  subst k0 e1 e4
  exact ⟨⟨⟨s0, k, t, tm, ld, y, rs, ws⟩, Ar, cr, Aw, cw, 0, 0, 0⟩, ⟨⟨e3, e6⟩, ⟨e2, e5⟩⟩, rfl⟩
theorem view_log {fuel len cap : Nat} {a : Option Addr} {x : DataW H × List MemPlace} (h : DataW.trod enc Try.prog w base spare held fuel 137 [.slice a len cap] = some x) :
    ∃ es : List EH, es.length = len ∧ RowsB KE w w.heap.size a es ∧ LgMax es := by
  obtain ⟨a', len', cap', L, hcs, hlen, hmx, hrow, hfs⟩ := row_viewC (C := 8) Try.underlying137 (by kernel_rfl) (by omega) h
  simp only [List.cons.injEq, Value.slice.injEq, and_true] at hcs
  obtain ⟨rfl, rfl, rfl⟩ := hcs
  obtain ⟨xs, h1, h2, h3⟩ := choose_list (α := EH) (Q := fun e => EMax e ∧ EnR w w.heap.size e) (f := enCs) L fun r hr => by
    obtain ⟨hl, y, n, ht⟩ := hfs r hr
    exact view_entry hl ht
  refine ⟨xs, h1.trans hlen, ⟨?_, fun e he => (h3 e he).2⟩, by rw [h1, hlen]; exact hmx, fun e he => (h3 e he).1⟩
  show RowB w w.heap.size a 8 (xs.map enCs)
  rw [h2]
  exact hrow.toB
theorem view_reps {fuel len cap : Nat} {a : Option Addr} {x : DataW H × List MemPlace} (h : DataW.trod enc Try.prog w base spare held fuel 54 [.slice a len cap] = some x) :
    ∃ hs : List RH, hs.length = len ∧ RowsB KR w w.heap.size a hs ∧ RpMax hs := by
  obtain ⟨a', len', cap', L, hcs, hlen, hmx, hrow, hfs⟩ := row_view Try.underlying54 Try.underlying139 (by kernel_rfl) (by kernel_rfl) (by simp) h
  simp only [List.cons.injEq, Value.slice.injEq, and_true] at hcs
  obtain ⟨rfl, rfl, rfl⟩ := hcs
  obtain ⟨xs, h1, h2, h3⟩ := choose_list (α := RH) (Q := fun r => LgMax r.es ∧ RowsB KE w w.heap.size r.A r.es) (f := rpCs) L fun r hr => by
    obtain ⟨hl, hf⟩ := hfs r hr
    obtain ⟨v0, y0, n0, e0, t0⟩ := hf 0 _ rfl
    obtain ⟨v1, y1, n1, e1, t1⟩ := hf 1 _ rfl
    obtain ⟨v2, y2, n2, e2, t2⟩ := hf 2 _ rfl
    obtain ⟨s0, k0, _⟩ := DataW.trod_bool Try.underlying4 t0
    obtain ⟨s2, k2, _⟩ := DataW.trod_int Try.underlying3 t2
    obtain ⟨ad, le, cp, rfl⟩ := trod_slice_form Try.underlying137 t1
    obtain ⟨es, g1, g2, g3⟩ := view_log t1
    simp only [List.cons.injEq, and_true] at k0 k2
    subst k0 k2 g1
    exact ⟨⟨s0, s2, ad, cp, es, 0, 0⟩, ⟨g3, g2⟩, list3 hl e0 e1 e2⟩
  refine ⟨xs, h1.trans hlen, ⟨?_, fun r hr => (h3 r hr).2⟩, by rw [h1, hlen]; exact hmx, fun r hr => (h3 r hr).1⟩
  show RowB w w.heap.size a 3 (xs.map rpCs)
  rw [h2]
  exact hrow.toB
theorem view_group {fuel : Nat} {cs : Array Value} {x : DataW H × List MemPlace} (h : DataW.trod enc Try.prog w base spare held fuel 56 cs.toList = some x) :
    ∃ (A : Option Addr) (n c : Nat) (tm ld : Int) (hs : List RH), cs = #[.slice A n c, .int .i64 tm, .int .i64 ld] ∧ hs.length = n ∧ RowsB KR w w.heap.size A hs ∧ RpMax hs := by
  obtain ⟨hl, hf⟩ := fields_view Try.underlying56 (by kernel_rfl) (by kernel_rfl) h
  obtain ⟨v0, y0, n0, e0, t0⟩ := hf 0 _ rfl
  obtain ⟨v1, y1, n1, e1, t1⟩ := hf 1 _ rfl
  obtain ⟨v2, y2, n2, e2, t2⟩ := hf 2 _ rfl
  obtain ⟨s1, k1, _⟩ := DataW.trod_int Try.underlying3 t1
  obtain ⟨s2, k2, _⟩ := DataW.trod_int Try.underlying3 t2
  obtain ⟨a0, l0, c0, rfl⟩ := trod_slice_form Try.underlying54 t0
  obtain ⟨hs, g1, g2, g3⟩ := view_reps t0
  simp only [List.cons.injEq, and_true] at k1 k2
  subst k1 k2
  have hlist := list3 hl e0 e1 e2
  refine ⟨a0, l0, c0, s1, s2, hs, ?_, g1, g2, g3⟩
  obtain ⟨l⟩ := cs
  simp only at hlist
  rw [hlist]
end
end Go.Proofs.Ytkhndofplebcaaa.Gr
