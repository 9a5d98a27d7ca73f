/-
  Contracts for the keys of a record by the model: l4KeysOf.
-/
import Derived.Test.YtohkpcgekoipbaaPutK
namespace Go.Proofs.Ytohkpcgekoipbaa
open Go.RowKit CM
set_option linter.unusedVariables false

theorem l4PutS_any (A : Option Addr) (c : Nat) (l : List ByteArray) (s : ByteArray) (w : World) (h : StrsB w w.heap.size A l) (hk : KForm A c l) (hup : upB kLt l = true) (hl : l.length ≤ 1048576) :
    Calls Try.prog 36 #[.slice A l.length c, .string s] w (PutKPost l s w) := by
  rcases hk with ⟨rfl, rfl, rfl⟩ | ⟨b, rfl, h1, h2⟩
  · exact l4PutS_nil s w
  · exact l4PutS_some b l.length c l s w rfl h1 h2 h hup hl

/-- The keys put so far. -/
def KRel (rs ks : List ByteArray) (w : World) (v : Value) (wr : World) : Prop :=
  ∃ A c R, v = .slice A R.length c ∧ StrsB wr wr.heap.size A R ∧ KForm A c R ∧ KeysRel R rs ks ∧ R.length ≤ rs.length + ks.length ∧ Below w.heap.size w wr
theorem KRel.zero (w : World) : KRel [] [] w (.slice none 0 0) w := ⟨none, 0, [], rfl, .inl rfl, .inl ⟨rfl, rfl, rfl⟩, ⟨rfl, by simp⟩, by simp, Below.refl _ _⟩
theorem KRel.put {rs ks rs' ks' R : List ByteArray} {A : Option Addr} {c : Nat} {s : ByteArray} {w wr w' : World} {e : Ending} (hK : KeysRel R rs ks) (hL : R.length ≤ rs.length + ks.length) (hb : Below w.heap.size w wr) (h : PutKPost R s wr e w') (hs : ∀ x, x ∈ rs' ∨ x ∈ ks' ↔ x = s ∨ (x ∈ rs ∨ x ∈ ks)) (hn : rs.length + ks.length + 1 ≤ rs'.length + ks'.length) :
    ∃ v, e = .returned v ∧ KRel rs' ks' w v w' := by
  obtain ⟨A', c', R', rfl, h1, h2, h3, h4, h5, h6⟩ := h
  exact ⟨_, rfl, A', c', R', rfl, h1, h2, ⟨h3, fun x => by rw [h4 x, hK.2 x, hs x]⟩, by omega, hb.trans (h6.mono hb.size)⟩
theorem mem_take_succ {l : List ByteArray} {k : Nat} (h : k < l.length) (x : ByteArray) : x ∈ l.take (k + 1) ↔ x = l[k] ∨ x ∈ l.take k := by
  rw [List.take_succ_eq_append_getElem h, List.mem_append, List.mem_singleton]
  exact ⟨fun h => h.symm, fun h => h.symm⟩

end Go.Proofs.Ytohkpcgekoipbaa
