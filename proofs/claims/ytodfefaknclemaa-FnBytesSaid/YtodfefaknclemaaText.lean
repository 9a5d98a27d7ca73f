/-
  Contracts for the readers of a text (the program's textAt, the model's text) and the walk of the law FnExactReadText.
-/
import Derived.Test.YtodfefaknclemaaReadLaw
import Derived.Test.YtodfefaknclemaaShelf
namespace Go.Proofs.Ytodfefaknclemaa
open Go.RowKit

/-- What a reader of a text at offset q hands back: the text, the offset behind it, whether there is one. -/
def readText (s : ByteArray) (q : Nat) : ByteArray × Nat × Bool :=
  if (M.readNum s.data.toList q).2.2 = true ∧ (M.readNum s.data.toList q).1 ≤ 60 ∧ (M.readNum s.data.toList q).2.1 + (M.readNum s.data.toList q).1 ≤ s.size then
    (s.extract (M.readNum s.data.toList q).2.1 ((M.readNum s.data.toList q).2.1 + (M.readNum s.data.toList q).1), (M.readNum s.data.toList q).2.1 + (M.readNum s.data.toList q).1, true)
  else (⟨#[]⟩, 0, false)

theorem readText_no {s : ByteArray} {q : Nat} (h : ¬ ((M.readNum s.data.toList q).2.2 = true ∧ (M.readNum s.data.toList q).1 ≤ 60 ∧ (M.readNum s.data.toList q).2.1 + (M.readNum s.data.toList q).1 ≤ s.size)) : readText s q = (⟨#[]⟩, 0, false) := if_neg h
theorem readText_yes {s : ByteArray} {q n x : Nat} (h : M.readNum s.data.toList q = (n, x, true)) (h1 : n ≤ 60) (h2 : x + n ≤ s.size) : readText s q = (s.extract x (x + n), x + n, true) := by
  unfold readText; rw [h]; exact if_pos ⟨rfl, h1, h2⟩
theorem readText_bounds {s t : ByteArray} {q y : Nat} (h : readText s q = (t, y, true)) : q < y ∧ y ≤ s.size ∧ t.size ≤ 60 := by
  unfold readText at h
  split at h
  · rename_i hc
    rcases hr : M.readNum s.data.toList q with ⟨n, x, ok⟩
    rw [hr] at hc h
    obtain ⟨hok, h1, h2⟩ := hc
    simp only at hok h1 h2 h
    subst hok
    have hb := M.read_bounds _ q n x hr
    simp only [Prod.mk.injEq] at h
    obtain ⟨rfl, rfl, _⟩ := h
    refine ⟨by omega, h2, ?_⟩
    rw [ByteArray.size_extract]; omega
  · simp at h

set_option maxHeartbeats 400000 in
theorem clone_any (s : ByteArray) (w : World) (hs : s.size ≤ 6000) :
    Calls Try.prog 77 #[.string s] w fun e w' => e = .returned (.string s) ∧ Below w.heap.size w w' := by
  go_enter Try.func77, Try.ntmps77
  go_wp2_with fail
  refine (Try.stringslite_Clone s _ (by omega)).mono ?_
  rintro e w' ⟨rfl, hb⟩
  go_wp2
  go_ret
  exact ⟨rfl, hb⟩

/-- What ReadText hands back. -/
def TextTuple (r : ByteArray × Nat × Bool) : Ending := .returned (.tuple #[.string r.1, .int .i64 (r.2.1 : Int), .bool r.2.2])

set_option maxRecDepth 100000 in
set_option maxHeartbeats 1000000 in
theorem textAt_any (s : ByteArray) (q : Nat) (w : World) (hs : s.size ≤ 6000) (hq : q ≤ s.size) :
    Calls Try.prog 61 #[.string s, .int .i64 (q : Int)] w fun e w' => e = TextTuple (readText s q) ∧ Below w.heap.size w w' := by
  have hn := numAt_any s q w hs hq
  rcases hr : M.readNum s.data.toList q with ⟨n, x, ok⟩
  rw [hr] at hn
  have HN := Lib.hid hn
  have HR := Lib.hid hr
  clear hn hr
  cases ok with
  | false =>
    have hz := readText_no (s := s) (q := q) (by rw [HR.out]; simp)
    have HZ := Lib.hid hz
    obtain ⟨rfl, rfl⟩ := M.read_false _ _ _ _ HR.out
    clear hz
    go_enter Try.func61, Try.ntmps61
    go_wp2_with fail
    refine HN.out.mono ?_
    rintro e w' ⟨rfl, rfl⟩
    go_wp2
    go_ret3
    exact ⟨by rw [HZ.out]; rfl, Below.refl _ _⟩
  | true =>
    obtain ⟨hb1, hb2, hb3, hb4⟩ := M.read_bounds _ q n x HR.out
    rw [drop_len] at hb4
    by_cases h1 : 60 < n
    · have hz := readText_no (s := s) (q := q) (by rw [HR.out]; simp; omega)
      have HZ := Lib.hid hz
      clear hz
      go_enter Try.func61, Try.ntmps61
      go_wp2_with fail
      refine HN.out.mono ?_
      rintro e w' ⟨rfl, rfl⟩
      go_wp2
      go_ret3
      exact ⟨by rw [HZ.out]; rfl, Below.refl _ _⟩
    · by_cases h2 : s.size < x + n
      · have hz := readText_no (s := s) (q := q) (by rw [HR.out]; simp; omega)
        have HZ := Lib.hid hz
        have h3 : (s.size : Int) - (x : Int) < (n : Int) := by omega
        clear hz
        go_enter Try.func61, Try.ntmps61
        go_wp2_with fail
        refine HN.out.mono ?_
        rintro e w' ⟨rfl, rfl⟩
        go_wp2
        go_ret3
        exact ⟨by rw [HZ.out]; rfl, Below.refl _ _⟩
      · have hz := readText_yes HR.out (by omega) (by omega)
        have HZ := Lib.hid hz
        have h3 : (n : Int) ≤ (s.size : Int) - (x : Int) := by omega
        have hx0 : (0 : Int) ≤ (x : Int) := by omega
        have hx1 : (x : Int) ≤ (x : Int) + (n : Int) := by omega
        have hx2 : (x : Int) + (n : Int) ≤ (s.size : Int) := by omega
        clear hz
        go_enter Try.func61, Try.ntmps61
        go_wp2_with fail
        refine HN.out.mono ?_
        rintro e w' ⟨rfl, rfl⟩
        go_wp2_with fail
        refine (clone_any (s.extract x (x + n)) _ (by rw [ByteArray.size_extract]; omega)).mono ?_
        rintro e w' ⟨rfl, hbel⟩
        go_wp2
        go_ret3
        exact ⟨by rw [HZ.out]; rfl, hbel⟩

/-- What text leaves. -/
def RTPost (w : World) (g : Nat) (s : ByteArray) (q : Nat) (e : Ending) (w' : World) : Prop :=
  w.grownBy w' (some g) ∧
  (((readText s q).2.2 = true ∧ e = .returned (.string (readText s q).1) ∧ RAt w' g s (readText s q).2.1 false) ∨
   ((readText s q).2.2 = false ∧ e = .returned (.string ⟨#[]⟩) ∧ ∃ q', RAt w' g s q' true))
theorem rt_bad {w w' : World} {g : Nat} {s : ByteArray} {q q' : Nat} (hh : readText s q = (⟨#[]⟩, 0, false)) (hG : w.grownBy w' (some g)) (hR : RAt w' g s q' true) : RTPost w g s q (.returned (.string ⟨#[]⟩)) w' :=
  ⟨hG, .inr ⟨by rw [hh], rfl, q', hR⟩⟩
theorem rt_good {w w' : World} {g : Nat} {s t : ByteArray} {q y : Nat} (hh : readText s q = (t, y, true)) (hG : w.grownBy w' (some g)) (hR : RAt w' g s y false) : RTPost w g s q (.returned (.string t)) w' :=
  ⟨hG, .inl ⟨by rw [hh], by rw [hh], by rw [hh]; exact hR⟩⟩

set_option maxRecDepth 100000 in
set_option maxHeartbeats 2000000 in
theorem rtext_any (g : Nat) (s : ByteArray) (q : Nat) (w : World) (h : RAt w g s q false) (hs : s.size ≤ 6000) (hq : q ≤ s.size) :
    Calls Try.prog 65 #[.pointer (some ⟨g, 0, none⟩)] w (RTPost w g s q) := by
  have HN := Lib.hid (rnum_any g s q w h hs hq)
  go_enter Try.func65, Try.ntmps65
  go_wp2_with fail
  refine HN.out.mono ?_
  rintro e w1 ⟨hG, hres⟩
  rcases hr : M.readNum s.data.toList q with ⟨n, x, ok⟩
  have HR := Lib.hid hr
  rw [hr] at hres
  clear hr
  rcases hres with ⟨hok, rfl, hR⟩ | ⟨hok, rfl, q', hR⟩
  · simp only at hok hR
    subst hok
    obtain ⟨hb1, hb2, hb3, hb4⟩ := M.read_bounds _ q n x HR.out
    rw [drop_len] at hb4
    have d0 := hR.c0
    have d1 := hR.c1
    have d2 := hR.c2
    have f1 := hR.fr 1
    have f2 := hR.fr 2
    by_cases h1 : 60 < n
    · have HZ := Lib.hid (readText_no (s := s) (q := q) (by rw [HR.out]; simp; omega))
      have hd : decide (60 < (n : Int)) = true := by simp; omega
      go_wp2_with fail
      go_quiet (fail)
      go_wp2
      go_ret
      exact rt_bad HZ.out (grown_set (grown_drewN hG _) rfl _) ((hR.drewN _).set2 true)
    · have hd : decide (60 < (n : Int)) = false := by simp; omega
      by_cases h2 : s.size < x + n
      · have HZ := Lib.hid (readText_no (s := s) (q := q) (by rw [HR.out]; simp; omega))
        have hd2 : decide ((s.size : Int) < (x : Int) + (n : Int)) = true := by simp; omega
        go_wp2_with fail
        go_quiet (fail)
        go_wp2
        go_ret
        exact rt_bad HZ.out (grown_set (grown_drewN hG _) rfl _) ((hR.drewN _).set2 true)
      · have HZ := Lib.hid (readText_yes HR.out (by omega) (by omega))
        have hd2 : decide ((s.size : Int) < (x : Int) + (n : Int)) = false := by simp; omega
        have hx0 : (0 : Int) ≤ (x : Int) := by omega
        have hx1 : (x : Int) ≤ (x : Int) + (n : Int) := by omega
        have hx2 : (x : Int) + (n : Int) ≤ (s.size : Int) := by omega
        go_wp2_with fail
        go_quiet (fail)
        go_wp2_with fail
        go_quiet (fail)
        go_wp2
        go_ret
        exact rt_good HZ.out (grown_drewN (grown_set (grown_drewN hG _) rfl _) _) (((hR.drewN _).set1 (x + n)).drewN _)
  · simp only at hok
    subst hok
    obtain ⟨rfl, rfl⟩ := M.read_false _ _ _ _ HR.out
    have HZ := Lib.hid (readText_no (s := s) (q := q) (by rw [HR.out]; simp))
    have d0 := hR.c0
    have d1 := hR.c1
    have d2 := hR.c2
    have f2 := hR.fr 2
    go_wp2_with fail
    go_quiet (fail)
    go_wp2
    go_ret
    exact rt_bad HZ.out (grown_set (grown_drewN hG _) rfl _) ((hR.drewN _).set2 true)

set_option maxHeartbeats 400000 in
theorem implReadText_yes (s : ByteArray) (q : Nat) (w : World) (h : Place s q) :
    Calls Try.prog 25 #[.string s, .int .i64 (q : Int)] w fun e w' => e = TextTuple (readText s q) ∧ Below w.heap.size w w' := by
  obtain ⟨r, hr⟩ : ∃ r, r = readText s q := ⟨_, rfl⟩
  have hn := textAt_any s q w h.1 (by have := h.2.2; omega)
  rw [← hr] at hn ⊢
  have HN := Lib.hid hn
  have HP := Lib.hid h
  clear hn h hr
  go_enter Try.func25, Try.ntmps25
  go_wp2_with fail
  refine (canRead_yes s q _ HP.out).mono ?_
  rintro e w' ⟨rfl, rfl⟩
  go_wp2_with fail
  refine HN.out.mono ?_
  rintro e w' ⟨rfl, hb⟩
  unfold TextTuple
  go_wp2
  go_ret3
  exact ⟨rfl, hb⟩

set_option maxHeartbeats 400000 in
theorem implReadText_no (s : ByteArray) (q : Int) (w : World) (hm : s.size ≤ maxLen) (h : ¬ Place s q) :
    Calls Try.prog 25 #[.string s, .int .i64 q] w fun e w' => e = .returned (.tuple #[.string ⟨#[]⟩, .int .i64 0, .bool false]) ∧ w = w' := by
  have H := Lib.hid h
  clear h
  go_enter Try.func25, Try.ntmps25
  go_wp2_with fail
  refine (canRead_no s q _ hm H.out).mono ?_
  rintro e w' ⟨rfl, rfl⟩
  go_wp2
  go_ret3
  exact ⟨rfl, rfl⟩

set_option maxHeartbeats 400000 in
theorem specReadText_no (s : ByteArray) (q : Int) (w : World) (hm : s.size ≤ maxLen) (h : ¬ Place s q) :
    Calls Try.prog 31 #[.string s, .int .i64 q] w fun e w' => e = .returned (.tuple #[.string ⟨#[]⟩, .int .i64 0, .bool false]) ∧ w = w' := by
  have H := Lib.hid h
  clear h
  go_enter Try.func31, Try.ntmps31
  go_wp2_with fail
  refine (l1Place_no s q _ hm H.out).mono ?_
  rintro e w' ⟨rfl, rfl⟩
  go_wp2
  go_ret3
  exact ⟨rfl, rfl⟩

theorem readText_zero (s : ByteArray) (q : Nat) (h : (readText s q).2.2 = false) : readText s q = (⟨#[]⟩, 0, false) := by
  unfold readText at h ⊢
  split
  · rename_i hc; rw [if_pos hc] at h; simp at h
  · rfl

set_option maxRecDepth 100000 in
set_option maxHeartbeats 1000000 in
theorem specReadText_yes (s : ByteArray) (q : Nat) (w : World) (h : Place s q) :
    Calls Try.prog 31 #[.string s, .int .i64 (q : Int)] w fun e w' => e = TextTuple (readText s q) ∧ Below w.heap.size w w' := by
  have HP := Lib.hid h
  obtain ⟨h1, h2, h3⟩ := h
  go_enter Try.func31, Try.ntmps31
  go_wp2_with fail
  refine (l1Place_yes s q _ HP.out).mono ?_
  rintro e w' ⟨rfl, rfl⟩
  go_wp2_with fail
  refine (rtext_any w.heap.size s q _ (rat_new w s q) h1 (by omega)).mono ?_
  rintro e w1 ⟨hG, hres⟩
  have hB : Below w.heap.size w w1 := (((Below.refl _ _).alloc (Nat.le_refl _) _).trans (below_of_grown hG (Nat.le_refl _) (by simp)))
  rcases hres with ⟨hok, rfl, hR⟩ | ⟨hok, rfl, q', hR⟩
  · have d1 := hR.c1
    have d2 := hR.c2
    obtain ⟨r, hr⟩ : ∃ r, r = readText s q := ⟨_, rfl⟩
    rw [← hr] at d1 hok ⊢
    have HK := Lib.hid hok
    have HG := Lib.hid hG
    have HR0 := Lib.hid hr
    clear hok hr hG hR
    go_wp2_with fail
    go_quiet (fail)
    go_wp2
    go_ret3
    refine ⟨?_, ⟨hB.os, hB.tape, hB.output, hB.size, hB.block⟩⟩
    unfold TextTuple
    rw [← HR0.out, HK.out]
    rfl
  · have d2 := hR.c2
    have hz := Lib.hid (readText_zero _ _ hok)
    clear hok hG
    go_wp2
    go_ret3
    refine ⟨?_, hB⟩
    rw [hz.out]; rfl

set_option maxHeartbeats 400000 in
theorem readTextWalk (s : ByteArray) (q : Int) (w0 : s.size ≤ maxLen) (_ : (Lit.int .i64 q).wf = true) (w : World) :
    Calls Try.prog 8 #[.string s, .int .i64 q] w fun e w' => e = .returned (.bool true) ∧ Below w.heap.size w w' := by
  have w0' := w0
  unfold maxLen at w0'
  by_cases h1 : 1048576 < s.size
  · go_enter Try.func8, Try.ntmps8
    go_wp2
    go_ret
    exact ⟨rfl, Below.refl _ _⟩
  · by_cases hp : Place s q
    · obtain ⟨m, rfl⟩ := Int.eq_ofNat_of_zero_le hp.2.1
      obtain ⟨r, hr⟩ : ∃ r, r = readText s m := ⟨_, rfl⟩
      have hS := specReadText_yes s m w hp
      have hI := fun W => implReadText_yes s m W hp
      rw [← hr] at hS hI
      unfold TextTuple at hS hI
      have HS := Lib.hid hS
      have HI := Lib.hid hI
      clear hS hI hr hp
      go_enter Try.func8, Try.ntmps8
      go_wp2_with fail
      refine HS.out.mono ?_
      rintro e w2 ⟨rfl, hb⟩
      go_wp2_with fail
      refine (HI.out _).mono ?_
      rintro e w3 ⟨rfl, hb2⟩
      go_wp2
      go_ret
      exact ⟨rfl, hb.trans (hb2.mono hb.size)⟩
    · have HP := Lib.hid hp
      clear hp
      go_enter Try.func8, Try.ntmps8
      go_wp2_with fail
      refine (specReadText_no s q _ w0 HP.out).mono ?_
      rintro e w' ⟨rfl, rfl⟩
      go_wp2_with fail
      refine (implReadText_no s q _ w0 HP.out).mono ?_
      rintro e w' ⟨rfl, rfl⟩
      go_wp2
      go_ret
      exact ⟨rfl, Below.refl _ _⟩
end Go.Proofs.Ytodfefaknclemaa
