/-
  The walk of the law FnExactReadTexts.
-/
import Derived.Test.YtodfefaknclemaaSpecTexts
namespace Go.Proofs.Ytodfefaknclemaa
open Go.RowKit

set_option maxRecDepth 100000 in
set_option maxHeartbeats 1000000 in
theorem rtsWalk_none (s : ByteArray) (q : Int) (w : World) (hs : s.size ≤ 1048576)
    (hi : ∀ W, Calls Try.prog 26 #[.string s, .int .i64 q] W fun e w' => e = .returned (.tuple #[.slice none 0 0, .int .i64 0, .bool false]) ∧ Below W.heap.size W w')
    (hp : Calls Try.prog 33 #[.string s, .int .i64 q] w fun e w' => e = .returned (.tuple #[.slice none 0 0, .int .i64 0, .bool false]) ∧ Below w.heap.size w w') :
    Calls Try.prog 10 #[.string s, .int .i64 q] w fun e w' => e = .returned (.bool true) ∧ Below w.heap.size w w' := by
  have HI := Lib.hid hi
  have HP := Lib.hid hp
  clear hi hp
  go_enter Try.func10, Try.ntmps10
  go_wp2_with fail
  refine HP.out.mono ?_
  rintro e w1 ⟨rfl, hb1⟩
  go_wp2_with fail
  refine (HI.out _).mono ?_
  rintro e w2 ⟨rfl, hb2⟩
  have hb12 := hb1.trans (hb2.mono hb1.size)
  go_wp2_with fail
  refine (eq_any none none 0 0 0 [] _ rfl (.inl rfl) (.inl rfl) (by omega)).mono ?_
  rintro e w3 ⟨rfl, m3, rfl⟩
  go_wp2_with fail
  refine (markS_zero none 0 1 _).mono ?_
  rintro e w4 ⟨rfl, rfl⟩
  go_wp2_with fail
  refine (heldS_zero none 0 1 _).mono ?_
  rintro e w5 ⟨rfl, rfl⟩
  go_wp2_with fail
  refine (HI.out _).mono ?_
  rintro e w6 ⟨rfl, hb6⟩
  have hb16 := Below.trans (b := w2.drewN m3) ⟨hb12.os, hb12.tape, hb12.output, hb12.size, hb12.block⟩ (hb6.mono hb12.size)
  go_wp2_with fail
  refine (eq_any none none 0 0 0 [] _ rfl (.inl rfl) (.inl rfl) (by omega)).mono ?_
  rintro e w7 ⟨rfl, m7, rfl⟩
  go_wp2_with fail
  refine (heldS_zero none 0 1 _).mono ?_
  rintro e w8 ⟨rfl, rfl⟩
  go_wp2
  go_ret
  exact ⟨rfl, ⟨hb16.os, hb16.tape, hb16.output, hb16.size, hb16.block⟩⟩

theorem below_drewN {B : Nat} {w w1 : World} (h : Below B w w1) (m : Nat) : Below B w (w1.drewN m) := ⟨h.os, h.tape, h.output, h.size, h.block⟩
theorem Filling.drewN {w : World} {g n k : Nat} {xs : List ByteArray} (h : Filling w g n xs k) (m : Nat) : Filling (w.drewN m) g n xs k := h

set_option maxRecDepth 100000 in
set_option maxHeartbeats 2000000 in
theorem rtsWalk_some (s : ByteArray) (q : Nat) (w : World) (hs : s.size ≤ 1048576) (l : List ByteArray) (z : Nat)
    (hi : ∀ W, Calls Try.prog 26 #[.string s, .int .i64 (q : Int)] W (RTsPost (some (l, z)) W))
    (hp : Calls Try.prog 33 #[.string s, .int .i64 (q : Int)] w (SRPost (some (l, z)) w)) :
    Calls Try.prog 10 #[.string s, .int .i64 (q : Int)] w fun e w' => e = .returned (.bool true) ∧ Below w.heap.size w w' := by
  have HI := Lib.hid hi
  have HP := Lib.hid hp
  clear hi hp
  go_enter Try.func10, Try.ntmps10
  go_wp2_with fail
  refine HP.out.mono ?_
  rintro e w1 ⟨hb1, hres⟩
  rcases hres with ⟨hno, _⟩ | ⟨l1, z1, A, c, hsome, rfl, hl, hst⟩
  · cases hno
  · simp only [Option.some.injEq, Prod.mk.injEq] at hsome
    obtain ⟨rfl, rfl⟩ := hsome
    go_wp2_with fail
    refine (HI.out _).mono ?_
    rintro e w2 ⟨hb2, hres⟩
    rcases hres with ⟨hno, _⟩ | ⟨l2, z2, g, hsome, rfl, hge, hl2, hf⟩
    · cases hno
    · simp only [Option.some.injEq, Prod.mk.injEq] at hsome
      obtain ⟨rfl, rfl⟩ := hsome
      obtain ⟨n, hn⟩ : ∃ n, n = l.length := ⟨_, rfl⟩
      rw [← hn] at hf hl hl2 ⊢
      have HNL := Lib.hid hn
      clear hn
      have hb12 := hb1.trans (hb2.mono hb1.size)
      go_wp2_with fail
      refine (eq_any _ _ n _ _ l _ HNL.out.symm (by have := HNL.out; subst this; exact hf.strs) (hst.below hb2) (by omega)).mono ?_
      rintro e w3 ⟨rfl, m3, rfl⟩
      go_wp2_with fail
      refine (markS_any g n _ 1 _ (hf.drewN m3).room (by omega) (by omega) (by omega)).mono ?_
      rintro e w4 ⟨rfl, hf4, hG4⟩
      have hB14 : Below w1.heap.size w1 w4 := Below.trans (b := w2.drewN m3) (below_drewN hb2 m3) (below_of_grown hG4 hge hb2.size)
      have hB04 : Below w.heap.size w w4 := hb1.trans (hB14.mono hb1.size)
      clear hG4 hf
      go_wp2_with fail
      refine (heldS_any g n _ 1 _ hf4 (by omega) (by omega) (by omega)).mono ?_
      rintro e w5 ⟨rfl, hb5⟩
      have hf5 := hf4.below hb5
      have hB15 := hB14.trans (hb5.mono hB14.size)
      have hB05 := hB04.trans (hb5.mono hB04.size)
      go_wp2_with fail
      refine (HI.out _).mono ?_
      rintro e w6 ⟨hb6, hres⟩
      rcases hres with ⟨hno, _⟩ | ⟨l3, z3, g', hsome, rfl, hge', hl3, hf6⟩
      · cases hno
      · simp only [Option.some.injEq, Prod.mk.injEq] at hsome
        obtain ⟨rfl, rfl⟩ := hsome
        have hB16 := hB15.trans (hb6.mono hB15.size)
        have hB06 := hB05.trans (hb6.mono hB05.size)
        have hf6' := hf5.below hb6
        rw [← HNL.out] at hf6 ⊢
        go_wp2_with fail
        refine (eq_any _ _ n _ _ l _ HNL.out.symm (by have := HNL.out; subst this; exact hf6.strs) (hst.below hB16) (by omega)).mono ?_
        rintro e w7 ⟨rfl, m7, rfl⟩
        go_wp2_with fail
        refine (heldS_any g n _ 1 _ (hf6'.drewN m7) (by omega) (by omega) (by omega)).mono ?_
        rintro e w8 ⟨rfl, hb8⟩
        go_wp2
        go_ret
        exact ⟨rfl, Below.trans (b := w6.drewN m7) (below_drewN hB06 m7) (hb8.mono hB06.size)⟩

set_option maxHeartbeats 400000 in
theorem readTextsWalk (s : ByteArray) (q : Int) (w0 : s.size ≤ maxLen) (_ : (Lit.int .i64 q).wf = true) (w : World) :
    Calls Try.prog 10 #[.string s, .int .i64 q] w fun e w' => e = .returned (.bool true) ∧ Below w.heap.size w w' := by
  have w0' := w0
  unfold maxLen at w0'
  by_cases h1 : 1048576 < s.size
  · go_enter Try.func10, Try.ntmps10
    go_wp2
    go_ret
    exact ⟨rfl, Below.refl _ _⟩
  · by_cases hp : Place s q
    · obtain ⟨m, rfl⟩ := Int.eq_ofNat_of_zero_le hp.2.1
      have hI := fun W => implReadTexts_yes s m W hp
      have hS := specReadTexts_yes s m w hp
      cases ho : readTexts s m with
      | none =>
        rw [ho] at hI hS
        refine rtsWalk_none s _ w (by omega) (fun W => (hI W).mono ?_) (hS.mono ?_)
        · rintro e w' ⟨hb, ⟨_, rfl⟩ | ⟨_, _, _, hno, _⟩⟩
          · exact ⟨rfl, hb⟩
          · cases hno
        · rintro e w' ⟨hb, ⟨_, rfl⟩ | ⟨_, _, _, _, hno, _⟩⟩
          · exact ⟨rfl, hb⟩
          · cases hno
      | some p =>
        obtain ⟨l, z⟩ := p
        rw [ho] at hI hS
        exact rtsWalk_some s m w (by omega) l z hI hS
    · refine rtsWalk_none s q w (by omega) (fun W => (implReadTexts_no s q W w0 hp).mono ?_) ((specReadTexts_no s q w w0 hp).mono ?_)
      · rintro e w' ⟨rfl, rfl⟩; exact ⟨rfl, Below.refl _ _⟩
      · rintro e w' ⟨rfl, rfl⟩; exact ⟨rfl, Below.refl _ _⟩
end Go.Proofs.Ytodfefaknclemaa
