/-
  What a law over nets is handed, as data.
-/
import Derived.Test.YtojplmjoipjabaaSeen
import Derived.Test.YtojplmjoipjabaaNtMem
import Derived.ChangeSlices
namespace Go.Proofs.Ytojplmjoipjabaa.Nt
open Go.ChangeShapes Go.WideShapes Go.RowKit Go.Deep Go.Joins
set_option linter.unusedVariables false

section
variable {H : Type} {enc : TypeId × Value → H} {w : World} {base : Nat} {spare : Nat → Bool} {held : Bool}

theorem row_ints {W : World} {a : Addr} {len : Nat} {zs : List Int} (hl : len ≤ zs.length) (hc : ∀ i, i < zs.length → W.cell? (a.add i) = some (.int .i64 (zs.getD i 0))) : IntsB W W.heap.size (some a) (zs.take len) := by
  rcases Nat.eq_zero_or_pos len with h0 | h0
  · subst h0; exact .inl (by simp)
  · obtain ⟨b, off, spot⟩ := a
    have hc0 := hc 0 (by omega)
    have hspot : spot = none := by simpa [Addr.add] using World.cell?_spot hc0
    subst hspot
    have hlt := World.block_lt_of_cell? W _ hc0
    refine .inr ⟨b, off, rfl, by simpa [Addr.add] using hlt, fun k hk i hi => ?_⟩
    simp only [List.length_map, List.length_take] at hk
    have hi0 : i = 0 := by omega
    subst hi0
    have h := hc k (by omega)
    have hadd : (⟨b, off, none⟩ : Addr).add k = ⟨b, off + k, none⟩ := by unfold Addr.add; split <;> simp_all
    rw [hadd] at h
    rw [Nat.mul_one, Nat.add_zero, h]
    simp [intCs, List.getD, List.getElem?_eq_getElem (show k < zs.length by omega)]

theorem view_ints {fuel len cap : Nat} {a : Option Addr} {x : DataW H × List MemPlace} (h : DataW.trod enc Try.prog w base spare held fuel 23 [.slice a len cap] = some x) :
    ∃ xs : List Int, xs.length = len ∧ len ≤ maxLen ∧ IntsB w w.heap.size a xs := by
  rcases Go.ChangeShapes.open_ints Try.underlying23 Try.underlying3 (by kernel_rfl) h with ⟨hcs, _⟩ | ⟨x, l, c, zs, hcs, _, hl, hm, hz, _, hcell, _⟩
  · simp only [List.cons.injEq, Value.slice.injEq, and_true] at hcs
    obtain ⟨rfl, rfl, rfl⟩ := hcs
    exact ⟨[], rfl, by unfold maxLen; omega, .inl rfl⟩
  · simp only [List.cons.injEq, Value.slice.injEq, and_true] at hcs
    obtain ⟨rfl, rfl, rfl⟩ := hcs
    have hle : len ≤ zs.length := by rw [hz]; split <;> omega
    exact ⟨zs.take len, by simp; omega, by omega, row_ints hle hcell⟩

theorem list4 {r : List Value} {a b c d : Value} (hl : r.length = 4) (h0 : r[0]? = some a) (h1 : r[1]? = some b) (h2 : r[2]? = some c) (h3 : r[3]? = some d) : r = [a, b, c, d] := by
  rcases r with _ | ⟨x, _ | ⟨y, _ | ⟨z, _ | ⟨u, _ | ⟨o, r⟩⟩⟩⟩⟩ <;> simp_all

theorem view_lets {fuel len cap : Nat} {a : Option Addr} {x : DataW H × List MemPlace} (h : DataW.trod enc Try.prog w base spare held fuel 24 [.slice a len cap] = some x) :
    ∃ ls : List (Int × Int × Int × ByteArray), ls.length = len ∧ len ≤ maxLen ∧ LetsB w w.heap.size a ls ∧ LMax ls := by
  obtain ⟨a', len', cap', L, hcs, hlen, hmx, hrow, hfs⟩ := row_view Try.underlying24 Try.underlying126 (by kernel_rfl) (by kernel_rfl) (by simp) h
  simp only [List.cons.injEq, Value.slice.injEq, and_true] at hcs
  obtain ⟨rfl, rfl, rfl⟩ := hcs
  obtain ⟨xs, h1, h2, h3⟩ := choose_list (α := (Int × Int × Int × ByteArray)) (Q := fun x => x.2.2.2.size ≤ maxLen) (f := ltCs) L fun r hr => by
    obtain ⟨hl, hf⟩ := hfs r hr
    obtain ⟨v0, y0, n0, e0, t0⟩ := hf 0 _ rfl
    obtain ⟨v1, y1, n1, e1, t1⟩ := hf 1 _ rfl
    obtain ⟨v2, y2, n2, e2, t2⟩ := hf 2 _ rfl
    obtain ⟨v3, y3, n3, e3, t3⟩ := hf 3 _ rfl
    obtain ⟨s0, k0, _⟩ := DataW.trod_int Try.underlying3 t0
    obtain ⟨s1, k1, _⟩ := DataW.trod_int Try.underlying3 t1
    obtain ⟨s2, k2, _⟩ := DataW.trod_int Try.underlying3 t2
    obtain ⟨s3, k3, _, z3⟩ := DataW.trod_string Try.underlying9 t3
    simp only [List.cons.injEq, and_true] at k0 k1 k2 k3
    subst k0 k1 k2 k3
    exact ⟨(s0, s1, s2, s3), z3, list4 hl e0 e1 e2 e3⟩
  refine ⟨xs, h1.trans hlen, hmx, ?_, by rw [h1, hlen]; exact hmx, h3⟩
  unfold LetsB
  rw [h2]
  exact hrow.toB

theorem view_net {fuel : Nat} {cs : Array Value} {x : DataW H × List MemPlace} (h : DataW.trod enc Try.prog w base spare held fuel 26 cs.toList = some x) :
    ∃ (now far : Int) (A : Option Addr) (n c : Nat) (is : List Int) (A' : Option Addr) (n' c' : Nat) (ls : List (Int × Int × Int × ByteArray)), cs = #[.int .i64 now, .slice A n c, .int .i64 far, .slice A' n' c'] ∧ is.length = n ∧ IntsB w w.heap.size A is ∧ n ≤ maxLen ∧ ls.length = n' ∧ LetsB w w.heap.size A' ls ∧ LMax ls := by
  obtain ⟨hl, hf⟩ := fields_view Try.underlying26 (by kernel_rfl) (by kernel_rfl) h
  obtain ⟨v0, y0, n0, e0, t0⟩ := hf 0 _ rfl
  obtain ⟨v1, y1, n1, e1, t1⟩ := hf 1 _ rfl
  obtain ⟨v2, y2, n2, e2, t2⟩ := hf 2 _ rfl
  obtain ⟨v3, y3, n3, e3, t3⟩ := hf 3 _ rfl
  obtain ⟨s0, k0, _⟩ := DataW.trod_int Try.underlying3 t0
  obtain ⟨s2, k2, _⟩ := DataW.trod_int Try.underlying3 t2
  obtain ⟨a1, l1, c1, rfl⟩ := trod_slice_form Try.underlying23 t1
  obtain ⟨a3, l3, c3, rfl⟩ := trod_slice_form Try.underlying24 t3
  obtain ⟨is, g1, g2, g3⟩ := view_ints t1
  obtain ⟨ls, g4, _, g5, g6⟩ := view_lets t3
  simp only [List.cons.injEq, and_true] at k0 k2
  subst k0 k2
  have hlist := list4 hl e0 e1 e2 e3
  refine ⟨s0, s2, a1, l1, c1, is, a3, l3, c3, ls, ?_, g1, g3, g2, g4, g5, g6⟩
  obtain ⟨l⟩ := cs
  simp only at hlist
  rw [hlist]
end
end Go.Proofs.Ytojplmjoipjabaa.Nt
