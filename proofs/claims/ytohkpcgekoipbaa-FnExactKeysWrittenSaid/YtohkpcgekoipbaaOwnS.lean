/-
  The contract of l1OwnS of the model: a copy of a list of strings.
-/
import Derived.Test.YtohkpcgekoipbaaStr
import Derived.Test.YtohkpcgekoipbaaApp
namespace Go.Proofs.Ytohkpcgekoipbaa
open Go.RowKit CM
set_option linter.unusedVariables false

theorem strCs_one (xs : List ByteArray) : ∀ u ∈ (xs.map strCs).flatten, u.oneCell' = true := by
  intro u hu
  simp only [List.mem_flatten, List.mem_map] at hu
  obtain ⟨l, ⟨x, _, rfl⟩, hu⟩ := hu
  simp only [strCs, List.mem_singleton] at hu
  subst hu
  rfl
theorem flatS_len (xs : List ByteArray) : ((xs.map strCs).flatten).length = xs.length * 1 := by
  rw [flat_len (sz := 1) (strCs_len _), List.length_map]
/-- The cells of a list of strings, as what is appended. -/
theorem StrsB.news {w : World} {B : Nat} {A : Option Addr} {xs : List ByteArray} (h : StrsB w B A xs) (hn : 0 < xs.length) : ∃ ad, A = some ad ∧ ad.block < B ∧ ∀ j u, ((xs.map strCs).flatten)[j]? = some u → w.cell? (ad.add j) = some u := by
  obtain ⟨b, off, rfl, hb, hc⟩ := h.get hn
  refine ⟨_, rfl, hb, fun j u hj => ?_⟩
  have hjl : j < xs.length := by
    have := (List.getElem?_eq_some_iff.1 hj).1
    rw [flatS_len] at this
    omega
  have e := flat_at (sz := 1) (strCs_len xs) j (by simpa using hjl) 0 (by omega)
  rw [Nat.mul_one, Nat.add_zero, hj, List.getElem_map] at e
  have hadd : (⟨b, off, none⟩ : Addr).add j = ⟨b, off + j, none⟩ := by unfold Addr.add; split <;> simp_all
  rw [hadd, hc j hjl]
  simpa [strCs] using e.symm

def OwnSPost (xs : List ByteArray) (w : World) (e : Ending) (w' : World) : Prop :=
  ∃ A c, e = .returned (.slice A xs.length c) ∧ OwnS w' w.heap.size w'.heap.size A c xs ∧ Below w.heap.size w w'

set_option maxRecDepth 100000 in
set_option maxHeartbeats 1000000 in
theorem l1OwnS_any (A : Option Addr) (n c : Nat) (xs : List ByteArray) (B : Nat) (w : World) (hn : xs.length = n) (h : StrsB w B A xs) (hB : B ≤ w.heap.size) (hl : n ≤ 2097152) :
    Calls Try.prog 60 #[.slice A n c] w (OwnSPost xs w) := by
  obtain ⟨i0, hi, hz0, hz1, hz2⟩ := info_parts infoStr
  have HN := Lib.hid hn
  have HS := Lib.hid (fun (hp : 0 < n) => h.news (by omega))
  have HO := Lib.hid (flatS_len xs)
  rw [hn] at HO
  clear hn h
  go_enter Try.func60, Try.ntmps60
  go_wp2_with (at_builtin; refine wpList_app rfl (.tmp 3) (.tmp 4) 32 rfl w.heap.size 9 i0 _ 1 16 Try.underlying32 hi hz0 hz1 hz2 rfl (by decide) _ 0 [] rfl (own_empty w w.heap.size 9 1 (Nat.le_refl _)) A n c ((xs.map strCs).flatten) rfl HO.out (fun hp => by obtain ⟨ad, h1, h2, h3⟩ := HS.out hp; exact ⟨ad, h1, fun j u hj => ((below1 w _).cell (p := ad.add j) (by unfold Addr.add; split <;> simp_all <;> omega)).trans (h3 j u hj)⟩) (strCs_one xs) (by unfold maxLen; omega) (by omega) (by simp) ?_; intro v6 w6 hown6 hgrow6 hat6)
  have hx := Own.ofRow (w := w6) (lo := w.heap.size) (t := 9) (sz := 1) (n := 0 + n) (v := v6) (L := xs.map strCs) (hi := w6.heap.size) (by simpa using hown6) (strCs_len _) (by decide) (fun k' hk' => (hown6.lt k' hk').2)
  obtain ⟨A6, cap6, hv6, _, hx6⟩ := hx
  rw [List.length_map] at hv6
  have HF := Lib.hid (show OwnSPost xs w (.returned v6) w6 from ⟨A6, cap6, by rw [hv6], hx6, (((Below.refl w.heap.size w)).alloc (Nat.le_refl _) _).grown hgrow6 (by simp) (fun k hk => Nat.le_of_eq (by have h2 : (Value.slice (some ⟨w.heap.size, 0, none⟩) 0 0).ownBlock = some k := hk; simpa [Value.ownBlock] using h2))⟩)
  clear hx6 hv6 hown6 hgrow6 hat6
  go_ret
  exact HF.out
end Go.Proofs.Ytohkpcgekoipbaa
