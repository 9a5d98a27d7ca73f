/-
  Both sides at once: for every argument the program's function of chapter 1 and the model's hand back the same.
-/
import Derived.Test.YtodfefaknclemaaDraw4
import Derived.Test.YtodfefaknclemaaBytesMath
namespace Go.Proofs.Ytodfefaknclemaa
open Go.RowKit
set_option linter.unusedVariables false

def StrTuple (b : ByteArray) (ok : Bool) : Ending := .returned (.tuple #[.string b, .bool ok])

theorem numBoth (n : Int) : ∃ (b : ByteArray) (ok : Bool),
    (∀ W, Calls Try.prog 16 #[.int .i64 n] W fun e w' => e = StrTuple b ok ∧ Below W.heap.size W w') ∧
    (∀ W, Calls Try.prog 17 #[.int .i64 n] W fun e w' => e = StrTuple b ok ∧ Below W.heap.size W w') ∧
    (ok = true → ∃ m : Nat, n = (m : Int) ∧ m ≤ 1000000000 ∧ b = ⟨(M.numB m).toArray⟩) := by
  by_cases h : n < 0 ∨ 1000000000 < n
  · refine ⟨⟨#[]⟩, false, fun W => (implNumBytes_no n W h).mono ?_, fun W => (specNumBytes_no n W h).mono ?_, fun h => by cases h⟩
    · rintro e w' ⟨rfl, rfl⟩; exact ⟨rfl, Below.refl _ _⟩
    · rintro e w' ⟨rfl, rfl⟩; exact ⟨rfl, Below.refl _ _⟩
  · obtain ⟨m, rfl⟩ := Int.eq_ofNat_of_zero_le (show (0 : Int) ≤ n by omega)
    exact ⟨_, true, fun W => implNumBytes_yes m W (by omega), fun W => specNumBytes_yes m W (by omega), fun _ => ⟨m, rfl, by omega, rfl⟩⟩

theorem textBoth (s : ByteArray) (hm : s.size ≤ maxLen) : ∃ (b : ByteArray) (ok : Bool),
    (∀ W, Calls Try.prog 19 #[.string s] W fun e w' => e = StrTuple b ok ∧ Below W.heap.size W w') ∧
    (∀ W, Calls Try.prog 20 #[.string s] W fun e w' => e = StrTuple b ok ∧ Below W.heap.size W w') ∧
    (ok = true → s.size ≤ 60 ∧ b = ⟨(textB s.data.toList).toArray⟩) := by
  by_cases h : s.size ≤ 60
  · exact ⟨_, true, fun W => implTextBytes_yes s W h, fun W => specTextBytes_yes s W h, fun _ => ⟨h, rfl⟩⟩
  · refine ⟨⟨#[]⟩, false, fun W => (implTextBytes_no s W hm (by omega)).mono ?_, fun W => (specTextBytes_no s W hm (by omega)).mono ?_, fun h => by cases h⟩
    · rintro e w' ⟨rfl, rfl⟩; exact ⟨rfl, Below.refl _ _⟩
    · rintro e w' ⟨rfl, rfl⟩; exact ⟨rfl, Below.refl _ _⟩

theorem textsBoth (xs : List ByteArray) (n : Nat) (hn : xs.length = n) (hl : n ≤ 1048576) (hx : ∀ x ∈ xs, x.size ≤ 1048576) : ∃ (b : ByteArray) (ok : Bool),
    (∀ W A c, StrsAt W A xs → Calls Try.prog 22 #[.slice A n c] W fun e w' => e = StrTuple b ok ∧ Below W.heap.size W w') ∧
    (∀ W A c, StrsAt W A xs → Calls Try.prog 23 #[.slice A n c] W fun e w' => e = StrTuple b ok ∧ Below W.heap.size W w') ∧
    (ok = true → Good xs ∧ b = ⟨(tsum xs xs.length).toArray⟩) := by
  have hx' : ∀ k (h : k < xs.length), xs[k].size ≤ 1048576 := fun k hk => hx _ (List.getElem_mem _)
  by_cases h : Good xs
  · exact ⟨_, true, fun W A c hs => implTexts_good A n c xs W hn hs h, fun W A c hs => specTexts_good A n c xs W hn hs h, fun _ => ⟨h, rfl⟩⟩
  · refine ⟨⟨#[]⟩, false, fun W A c hs => implTexts_bad A n c xs W hn hs hl hx' h, fun W A c hs => (specTexts_bad A n c xs W hn hs hl hx' h).mono ?_, fun h => by cases h⟩
    rintro e w' ⟨rfl, rfl⟩; exact ⟨rfl, Below.refl _ _⟩

theorem numRead (s : ByteArray) (q : Int) (hm : s.size ≤ maxLen) : ∃ r : Nat × Nat × Bool,
    (∀ W, Calls Try.prog 24 #[.string s, .int .i64 q] W fun e w' => e = NumTuple r ∧ Below W.heap.size W w') ∧
    (∀ W, Calls Try.prog 29 #[.string s, .int .i64 q] W fun e w' => e = NumTuple r ∧ Below W.heap.size W w') := by
  by_cases hp : Place s q
  · obtain ⟨m, rfl⟩ := Int.eq_ofNat_of_zero_le hp.2.1
    refine ⟨_, fun W => (implReadNum_yes s m W hp).mono ?_, fun W => specReadNum_yes s m W hp⟩
    rintro e w' ⟨rfl, rfl⟩; exact ⟨rfl, Below.refl _ _⟩
  · refine ⟨(0, 0, false), fun W => (implReadNum_no s q W hm hp).mono ?_, fun W => (specReadNum_no s q W hm hp).mono ?_⟩
    · rintro e w' ⟨rfl, rfl⟩; exact ⟨rfl, Below.refl _ _⟩
    · rintro e w' ⟨rfl, rfl⟩; exact ⟨rfl, Below.refl _ _⟩
theorem textRead (s : ByteArray) (q : Int) (hm : s.size ≤ maxLen) : ∃ r : ByteArray × Nat × Bool,
    (∀ W, Calls Try.prog 25 #[.string s, .int .i64 q] W fun e w' => e = TextTuple r ∧ Below W.heap.size W w') ∧
    (∀ W, Calls Try.prog 31 #[.string s, .int .i64 q] W fun e w' => e = TextTuple r ∧ Below W.heap.size W w') := by
  by_cases hp : Place s q
  · obtain ⟨m, rfl⟩ := Int.eq_ofNat_of_zero_le hp.2.1
    exact ⟨_, fun W => implReadText_yes s m W hp, fun W => specReadText_yes s m W hp⟩
  · refine ⟨(⟨#[]⟩, 0, false), fun W => (implReadText_no s q W hm hp).mono ?_, fun W => (specReadText_no s q W hm hp).mono ?_⟩
    · rintro e w' ⟨rfl, rfl⟩; exact ⟨rfl, Below.refl _ _⟩
    · rintro e w' ⟨rfl, rfl⟩; exact ⟨rfl, Below.refl _ _⟩

/-- A list of texts, an offset, and whether there are any, handed back in memory. -/
def ListTuple (l : List ByteArray) (z : Nat) (ok : Bool) (W : World) (e : Ending) (w' : World) : Prop :=
  ∃ (A : Option Addr) (c : Nat), e = .returned (.tuple #[.slice A l.length c, .int .i64 (z : Int), .bool ok]) ∧ StrsAt w' A l ∧ l.length ≤ 40 ∧ Below W.heap.size W w'
theorem list_none (W w' : World) (hb : Below W.heap.size W w') : ListTuple [] 0 false W (.returned (.tuple #[.slice none 0 0, .int .i64 0, .bool false])) w' := ⟨none, 0, rfl, .inl rfl, by simp, hb⟩
theorem list_of_impl {o : Option (List ByteArray × Nat)} {l : List ByteArray} {z : Nat} {W w' : World} {e : Ending} (ho : o = some (l, z)) (h : RTsPost o W e w') : ListTuple l z true W e w' := by
  subst ho
  obtain ⟨hb, ⟨hno, _⟩ | ⟨l1, z1, g, hs, rfl, hg, hl, hf⟩⟩ := h
  · cases hno
  · simp only [Option.some.injEq, Prod.mk.injEq] at hs
    obtain ⟨rfl, rfl⟩ := hs
    exact ⟨_, _, rfl, hf.strs, hl, hb⟩
theorem list_of_spec {o : Option (List ByteArray × Nat)} {l : List ByteArray} {z : Nat} {W w' : World} {e : Ending} (ho : o = some (l, z)) (h : SRPost o W e w') : ListTuple l z true W e w' := by
  subst ho
  obtain ⟨hb, ⟨hno, _⟩ | ⟨l1, z1, A, c, hs, rfl, hl, hf⟩⟩ := h
  · cases hno
  · simp only [Option.some.injEq, Prod.mk.injEq] at hs
    obtain ⟨rfl, rfl⟩ := hs
    exact ⟨_, _, rfl, hf, hl, hb⟩
theorem textsRead (s : ByteArray) (q : Int) (hm : s.size ≤ maxLen) : ∃ (l : List ByteArray) (z : Nat) (ok : Bool),
    (∀ W, Calls Try.prog 26 #[.string s, .int .i64 q] W (ListTuple l z ok W)) ∧
    (∀ W, Calls Try.prog 33 #[.string s, .int .i64 q] W (ListTuple l z ok W)) := by
  by_cases hp : Place s q
  · obtain ⟨m, rfl⟩ := Int.eq_ofNat_of_zero_le hp.2.1
    cases ho : readTexts s m with
    | none =>
      refine ⟨[], 0, false, fun W => (implReadTexts_yes s m W hp).mono ?_, fun W => (specReadTexts_yes s m W hp).mono ?_⟩
      · rw [ho]
        rintro e w' ⟨hb, ⟨_, rfl⟩ | ⟨_, _, _, hno, _⟩⟩
        · exact list_none _ _ hb
        · cases hno
      · rw [ho]
        rintro e w' ⟨hb, ⟨_, rfl⟩ | ⟨_, _, _, _, hno, _⟩⟩
        · exact list_none _ _ hb
        · cases hno
    | some p =>
      obtain ⟨l, z⟩ := p
      exact ⟨l, z, true, fun W => (implReadTexts_yes s m W hp).mono fun e w' h => list_of_impl ho h, fun W => (specReadTexts_yes s m W hp).mono fun e w' h => list_of_spec ho h⟩
  · refine ⟨[], 0, false, fun W => (implReadTexts_no s q W hm hp).mono ?_, fun W => (specReadTexts_no s q W hm hp).mono ?_⟩
    · rintro e w' ⟨rfl, rfl⟩; exact list_none _ _ (Below.refl _ _)
    · rintro e w' ⟨rfl, rfl⟩; exact list_none _ _ (Below.refl _ _)

/-- What is written is read back, in one string. -/
theorem all_back (m : Nat) (s : ByteArray) (xs : List ByteArray) (S b c d : ByteArray) (hm : m ≤ 1000000000) (hs : s.size ≤ 60) (hg : Good xs)
    (hb : b = ⟨(M.numB m).toArray⟩) (hc : c = ⟨(textB s.data.toList).toArray⟩) (hd : d = ⟨(tsum xs xs.length).toArray⟩) (hS : S = b ++ c ++ d) :
    b.size ≤ 10 ∧ c.size ≤ 70 ∧ d.size ≤ 2810 ∧ S.size = b.size + c.size + d.size ∧
    (∀ W, Calls Try.prog 24 #[.string S, .int .i64 0] W fun e w' => e = NumTuple (m, b.size, true) ∧ Below W.heap.size W w') ∧
    (∀ W, Calls Try.prog 25 #[.string S, .int .i64 (b.size : Int)] W fun e w' => e = TextTuple (s, b.size + c.size, true) ∧ Below W.heap.size W w') ∧
    (∀ W, Calls Try.prog 26 #[.string S, .int .i64 ((b.size : Int) + (c.size : Int))] W (ListTuple xs S.size true W)) := by
  have e1 : s.data.toList.length = s.size := data_len s
  have hbl : b.data.toList = M.numB m := by rw [hb]
  have hcl : c.data.toList = textB s.data.toList := by rw [hc]
  have hdl : d.data.toList = tsum xs xs.length := by rw [hd]
  have hbs : b.size = (M.numB m).length := by rw [hb, size_of_list]
  have hcs : c.size = (textB s.data.toList).length := by rw [hc, size_of_list]
  have hds : d.size = (tsum xs xs.length).length := by rw [hd, size_of_list]
  have hn := M.numB_len m
  have hn2 := M.numB_len s.size
  have ht : (textB s.data.toList).length = (M.numB s.size).length + s.size := by unfold textB; rw [List.length_append, e1]
  have hx := tsum_len xs xs.length (Nat.le_refl _) (fun j hj _ => hg.2 j hj)
  have hx40 := hg.1
  have hSl : S.data.toList = M.numB m ++ (textB s.data.toList ++ tsum xs xs.length) := by
    rw [hS]
    simp only [ByteArray.data_append, Array.toList_append]
    rw [hbl, hcl, hdl, List.append_assoc]
  have hSs : S.size = b.size + c.size + d.size := by rw [hS, ByteArray.size_append, ByteArray.size_append]
  refine ⟨by omega, by omega, by omega, hSs, ?_, ?_, ?_⟩
  · intro W
    have hr : M.readNum S.data.toList 0 = (m, b.size, true) := by
      unfold M.readNum
      rw [List.drop_zero, hSl, M.read_num m 0 _ hm, hbs, Nat.zero_add]
    have h := implReadNum_yes S 0 W ⟨by omega, by omega, by omega⟩
    rw [hr] at h
    exact h.mono fun e w' ⟨he, hw⟩ => ⟨he, by subst hw; exact Below.refl _ _⟩
  · intro W
    have hdrop : S.data.toList.drop b.size = textB s.data.toList ++ tsum xs xs.length := by
      rw [hSl, hbs, List.drop_append_of_le_length (Nat.le_refl _), List.drop_of_length_le (Nat.le_refl _), List.nil_append]
    have hr := read_text S s b.size _ hs hdrop (by omega)
    have h := implReadText_yes S b.size W ⟨by omega, by omega, by omega⟩
    rw [hr, ← hcs] at h
    exact h
  · intro W
    have hdrop : S.data.toList.drop (b.size + c.size) = tsum xs xs.length := by
      rw [hSl, ← List.append_assoc, hbs, hcs, ← List.length_append, List.drop_append_of_le_length (Nat.le_refl _), List.drop_of_length_le (Nat.le_refl _), List.nil_append]
    have hr := read_texts S xs (b.size + c.size) hg hdrop (by omega)
    have h := implReadTexts_yes S (b.size + c.size) W ⟨by omega, by omega, by omega⟩
    have e2 : ((b.size + c.size : Nat) : Int) = (b.size : Int) + (c.size : Int) := by omega
    rw [e2] at h
    exact h.mono fun e w' hh => list_of_impl hr hh
end Go.Proofs.Ytodfefaknclemaa
