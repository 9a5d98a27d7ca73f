/-
  What a law is handed, as data: slices of strings, records.
-/
import Derived.Test.YtkhndofplebcaaaSeen
import Derived.Test.YtkhndofplebcaaaRec
namespace Go.Proofs.Ytkhndofplebcaaa
open Go.ChangeShapes Go.WideShapes Go.RowKit Go.Deep Go.Joins
set_option linter.unusedVariables false

section
variable {H : Type} {enc : TypeId × Value → H} {w : World} {base : Nat} {spare : Nat → Bool} {held : Bool}

theorem row_strs {W : World} {a : Addr} {len : Nat} {ss : List ByteArray} (hl : len ≤ ss.length) (hc : ∀ i, i < ss.length → W.cell? (a.add i) = some (.string (ss.getD i ByteArray.empty))) : StrsB W W.heap.size (some a) (ss.take len) := by
  rcases Nat.eq_zero_or_pos len with h0 | h0
  · subst h0; exact .inl (by simp)
  · obtain ⟨b, off, spot⟩ := a
    have hc0 := hc 0 (by omega)
    have hspot : spot = none := by simpa [Addr.add] using World.cell?_spot hc0
    subst hspot
    have hlt := World.block_lt_of_cell? W _ hc0
    refine .inr ⟨b, off, rfl, by simpa [Addr.add] using hlt, fun k hk i hi => ?_⟩
    simp only [List.length_map, List.length_take] at hk
    have hi0 : i = 0 := by omega
    subst hi0
    have h := hc k (by omega)
    have hadd : (⟨b, off, none⟩ : Addr).add k = ⟨b, off + k, none⟩ := by unfold Addr.add; split <;> simp_all
    rw [hadd] at h
    rw [Nat.mul_one, Nat.add_zero, h]
    simp [strCs, List.getD, List.getElem?_eq_getElem (show k < ss.length by omega)]

theorem view_strs {fuel len cap : Nat} {a : Option Addr} {x : DataW H × List MemPlace} (h : DataW.trod enc Try.prog w base spare held fuel 22 [.slice a len cap] = some x) :
    ∃ xs : List ByteArray, xs.length = len ∧ len ≤ maxLen ∧ StrsB w w.heap.size a xs ∧ SMax xs := by
  rcases open_strings Try.underlying22 Try.underlying9 (by kernel_rfl) h with ⟨hcs, _⟩ | ⟨x, l, c, ss, hcs, _, hl, hm, hz, _, hcell, hws⟩
  · simp only [List.cons.injEq, Value.slice.injEq, and_true] at hcs
    obtain ⟨rfl, rfl, rfl⟩ := hcs
    exact ⟨[], rfl, by unfold maxLen; omega, .inl rfl, by unfold maxLen; simp, by simp⟩
  · simp only [List.cons.injEq, Value.slice.injEq, and_true] at hcs
    obtain ⟨rfl, rfl, rfl⟩ := hcs
    have hle : len ≤ ss.length := by rw [hz]; split <;> omega
    exact ⟨ss.take len, by simp; omega, by omega, row_strs hle hcell, by simp; omega, fun s hs => hws _ (List.mem_of_mem_take hs)⟩

theorem list7 {r : List Value} {a b c d e f g : Value} (hl : r.length = 7) (h0 : r[0]? = some a) (h1 : r[1]? = some b) (h2 : r[2]? = some c) (h3 : r[3]? = some d) (h4 : r[4]? = some e) (h5 : r[5]? = some f) (h6 : r[6]? = some g) : r = [a, b, c, d, e, f, g] := by
  rcases r with _ | ⟨x, _ | ⟨y, _ | ⟨z, _ | ⟨u, _ | ⟨v, _ | ⟨p, _ | ⟨q, _ | ⟨o, r⟩⟩⟩⟩⟩⟩⟩⟩ <;> simp_all

theorem view_rec {fuel : Nat} {cs : Array Value} {x : DataW H × List MemPlace} (h : DataW.trod enc Try.prog w base spare held fuel 25 cs.toList = some x) :
    ∃ (k t tm ld : Int) (y : Bool) (Ar : Option Addr) (nr cr : Nat) (rs : List ByteArray) (Aw : Option Addr) (nw cw : Nat) (ws : List (ByteArray × ByteArray × Bool)), cs = #[.int .i64 k, .int .i64 t, .int .i64 tm, .int .i64 ld, .slice Ar nr cr, .slice Aw nw cw, .bool y] ∧ rs.length = nr ∧ StrsB w w.heap.size Ar rs ∧ SMax rs ∧ ws.length = nw ∧ WritesB w w.heap.size Aw ws ∧ WMax ws := by
  obtain ⟨hl, hf⟩ := fields_view Try.underlying25 (by kernel_rfl) (by kernel_rfl) h
  obtain ⟨v0, y0, n0, e0, t0⟩ := hf 0 _ rfl
  obtain ⟨v1, y1, n1, e1, t1⟩ := hf 1 _ rfl
  obtain ⟨v2, y2, n2, e2, t2⟩ := hf 2 _ rfl
  obtain ⟨v3, y3, n3, e3, t3⟩ := hf 3 _ rfl
  obtain ⟨v4, y4, n4, e4, t4⟩ := hf 4 _ rfl
  obtain ⟨v5, y5, n5, e5, t5⟩ := hf 5 _ rfl
  obtain ⟨v6, y6, n6, e6, t6⟩ := hf 6 _ rfl
  obtain ⟨s0, k0, _⟩ := DataW.trod_int Try.underlying3 t0
  obtain ⟨s1, k1, _⟩ := DataW.trod_int Try.underlying3 t1
  obtain ⟨s2, k2, _⟩ := DataW.trod_int Try.underlying3 t2
  obtain ⟨s3, k3, _⟩ := DataW.trod_int Try.underlying3 t3
  obtain ⟨s6, k6, _⟩ := DataW.trod_bool Try.underlying4 t6
  obtain ⟨a4, l4, c4, rfl⟩ := trod_slice_form Try.underlying22 t4
  obtain ⟨a5, l5, c5, rfl⟩ := trod_slice_form Try.underlying23 t5
  obtain ⟨rs, g1, _, g2, g3⟩ := view_strs t4
  obtain ⟨ws, g4, _, g5, g6⟩ := view_writes t5
  simp only [List.cons.injEq, and_true] at k0 k1 k2 k3 k6
  subst k0 k1 k2 k3 k6
  have hlist := list7 hl e0 e1 e2 e3 e4 e5 e6
  refine ⟨s0, s1, s2, s3, s6, a4, l4, c4, rs, a5, l5, c5, ws, ?_, g1, g2, g3, g4, g5, g6⟩
  obtain ⟨l⟩ := cs
  simp only at hlist
  rw [hlist]
end
end Go.Proofs.Ytkhndofplebcaaa
