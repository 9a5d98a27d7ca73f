/-
  Contracts for the model's reader of several texts (texts, ReadTexts).
-/
import Derived.Test.YtodfefaknclemaaReadTexts
namespace Go.Proofs.Ytodfefaknclemaa
open Go.RowKit

/-- Strings as cells. -/
def S9 (l : List ByteArray) : List Value := l.map Value.string
theorem S9_len (l : List ByteArray) : (S9 l).length = l.length := by simp [S9]

theorem own_strs {w : World} {base n : Nat} {v : Value} {l : List ByteArray} (h : w.ownsRow base 9 1 v n (S9 l)) : ∃ A c, v = .slice A n c ∧ StrsAt w A l := by
  have hl : l.length = n := by have := h.1; rw [S9_len] at this; omega
  rcases Nat.eq_zero_or_pos n with h0 | h0
  · subst h0
    have : l = [] := List.eq_nil_of_length_eq_zero hl
    subst this
    rcases h.2 with ⟨rfl, _⟩ | ⟨g, cap, cur, rfl, _⟩
    · exact ⟨_, _, rfl, .inl rfl⟩
    · exact ⟨_, _, rfl, .inl rfl⟩
  · obtain ⟨g, cap, rfl, _, hlt⟩ := h.form h0
    refine ⟨_, _, rfl, .inr ⟨g, 0, rfl, hlt, fun k hk => ?_⟩⟩
    have := h.cells (g := g) rfl k (.string l[k]) (by simp [S9, List.getElem?_eq_getElem hk])
    rw [Nat.zero_add]
    have hadd : (⟨g, 0, none⟩ : Addr).add k = ⟨g, k, none⟩ := by unfold Addr.add; split <;> simp_all
    rwa [hadd] at this
theorem own_snocS {w : World} {base k : Nat} {v : Value} {l : List ByteArray} {t : ByteArray} (h : w.ownsRow base 9 1 v (k + 1) (S9 l ++ [.string t])) : w.ownsRow base 9 1 v (k + 1) (S9 (l ++ [t])) := by
  simpa [S9] using h
theorem one_str (t : ByteArray) : ∀ u ∈ [Value.string t], u.oneCell' = true := by
  intro u hu; simp at hu; subst hu; rfl

section
variable {w w1 w2 : World} {g base n : Nat} {v : Value} {xs : List Value} {e : TypeId} {o : Obj}
theorem own_kept (h : w1.ownsRow base e 1 v n xs) (hb : g < base) (hg : w1.grownBy w2 (some g)) : w2.ownsRow base e 1 v n xs := by
  refine h.kept hg ?_
  right
  intro hv
  have := (h.lt g hv).1
  omega
theorem grown_app (hG : w.grownBy w1 (some g)) (h : w1.ownsRow w.heap.size e 1 v n xs) (hg : (w1.alloc o).grownBy w2 v.ownBlock) : w.grownBy w2 (some g) := by
  refine ⟨hg.os.trans hG.os, hg.tape.trans hG.tape, hg.output.trans hG.output, ?_, fun k hk hr => ?_⟩
  · have h1 := hG.size
    have h2 := hg.size
    simp at h2
    omega
  · have h1 := hG.size
    have hne : some k ≠ v.ownBlock := fun e => by have := (h.lt k e.symm).1; omega
    rw [hg.block k (by simp; omega) hne, Below.heap_alloc w1 o k (by omega), hG.block k hk hr]
theorem rat_app {s : ByteArray} {q : Nat} {bad : Bool} (h : w1.ownsRow base e 1 v n xs) (hb : g < base) (hg : (w1.alloc o).grownBy w2 v.ownBlock) (hR : RAt w1 g s q bad) : RAt w2 g s q bad := by
  have hlt := hR.lt
  have hne : some g ≠ v.ownBlock := fun e => by have := (h.lt g e.symm).1; omega
  unfold RAt at hR ⊢
  rw [hg.block g (by simp; omega) hne, Below.heap_alloc w1 o g hlt, hR]
end

/-- What texts leaves. -/
def STPost (o : Option (List ByteArray × Nat)) (w : World) (g : Nat) (s : ByteArray) (e : Ending) (w' : World) : Prop :=
  w.grownBy w' (some g) ∧
  ((o = none ∧ ∃ v q', e = .returned v ∧ RAt w' g s q' true) ∨
   ∃ l z v, o = some (l, z) ∧ e = .returned v ∧ w'.ownsRow w.heap.size 9 1 v l.length (S9 l) ∧ l.length ≤ 40 ∧ RAt w' g s z false)

/-- What the loop of texts keeps while the reader is good. -/
def TsGood (w : World) (g : Nat) (s : ByteArray) (x n : Nat) (i v : Value) (wr : World) : Prop :=
  ∃ (k y : Nat) (l : List ByteArray), k ≤ n ∧ y ≤ s.size ∧ i = .int .i64 ((n - k : Nat) : Int) ∧ Hid (l.length = k) ∧ Hid (run s x k = some (l, y)) ∧ wr.ownsRow w.heap.size 9 1 v k (S9 l) ∧ RAt wr g s y false ∧ w.grownBy wr (some g)
/-- .. and once it is bad. -/
def TsBad (w : World) (g : Nat) (s : ByteArray) (x n : Nat) (i : Value) (wr : World) : Prop :=
  ∃ m q' : Nat, m ≤ 40 ∧ i = .int .i64 (m : Int) ∧ Hid (run s x n = none) ∧ RAt wr g s q' true ∧ w.grownBy wr (some g)

set_option maxRecDepth 100000 in
set_option maxHeartbeats 4000000 in
theorem rtexts_any (g : Nat) (s : ByteArray) (q : Nat) (w : World) (h : RAt w g s q false) (hs : s.size ≤ 6000) (hq : q ≤ s.size) :
    Calls Try.prog 66 #[.pointer (some ⟨g, 0, none⟩)] w (STPost (readTexts s q) w g s) := by
  have HN := Lib.hid (rnum_any g s q w h hs hq)
  have hgw := h.lt
  obtain ⟨i0, hi, hz0, hz1, hz2⟩ := info_parts info9
  go_enter Try.func66, Try.ntmps66
  go_wp2_with fail
  refine HN.out.mono ?_
  rintro e w1 ⟨hG, hres⟩
  rcases hr : M.readNum s.data.toList q with ⟨n, x, ok⟩
  have HR := Lib.hid hr
  rw [hr] at hres
  clear hr
  rcases hres with ⟨hok, rfl, hR⟩ | ⟨hok, rfl, q', hR⟩
  · simp only at hok hR
    subst hok
    obtain ⟨hb1, hb2, hb3, hb4⟩ := M.read_bounds _ q n x HR.out
    rw [drop_len] at hb4
    by_cases h1 : 40 < n
    · have hz : readTexts s q = none := by unfold readTexts; rw [HR.out]; simp; omega
      have HZ := Lib.hid hz
      have f2 := hR.fr 2
      have d2 := hR.c2
      have HS2 := Lib.hid (hR.set2 true)
      have HG2 := Lib.hid (grown_set hG (p := ⟨g, 2, none⟩) rfl (.bool true))
      clear hz
      go_wp2
      refine wp_loop_rounds 1 ?_
      rw [rounds_succ]
      go_wp2
      go_ret
      exact ⟨HG2.out, .inl ⟨HZ.out, _, _, rfl, HS2.out⟩⟩
    · have h2 : n ≤ 40 := by omega
      have hz : readTexts s q = run s x n := by unfold readTexts; rw [HR.out]; exact if_pos ⟨rfl, h2⟩
      have HZ := Lib.hid hz
      have hx : x ≤ s.size := by omega
      have hG1 := hG
      have hR1 := hR
      have d2 := hR.c2
      clear hz hb1 hb2 hb3 hb4 h1
      go_wp2_with fail
      go_loopw [3, 4] (fun i v wr => TsGood w g s x n i v wr ∨ TsBad w g s x n i wr) (fun i _ _ => (intOf i).toNat)
      case atStart => exact .inl ⟨0, x, [], by omega, hx, rfl, rfl, rfl, World.ownsRow_nil _ _ _ _, hR1, hG1⟩
      case round =>
        clear hG1 hR1 d2 hR hG
        rcases hrel with ⟨k, y, l, hk, hy, rfl, HL, HRUN, hown, hR, hG⟩ | ⟨m, q', hm, rfl, HNO, hR, hG⟩
        · have d2 := hR.c2
          by_cases hlt : k < n
          · have HT := Lib.hid (rtext_any g s y wr hR hs hy)
            have hm0 : 0 < n - k := by omega
            have hm1 : n - k ≤ 40 := by omega
            obtain ⟨m, hmd⟩ : ∃ m, m = n - k := ⟨_, rfl⟩
            rw [← hmd] at hm0 hm1 ⊢
            have HM := Lib.hid hmd
            rcases ht : readText s y with ⟨t, z, ok⟩
            have HTE := Lib.hid ht
            clear hmd ht
            go_wp2_with fail
            refine HT.out.mono ?_
            rintro e w2 ⟨hG2, hres⟩
            rw [HTE.out] at hres
            have hown2 := own_kept hown hgw hG2
            have hG3 := grown_trans hG hG2
            have hsz2 := hG3.size
            clear hown hG2
            rcases hres with ⟨hok, rfl, hR2⟩ | ⟨hok, rfl, q', hR2⟩
            · simp only at hok hR2
              subst hok
              go_wp2_with (at_builtin; refine wpList_append_own _ rfl (.tmp 23) (.tmp 26) 29 rfl w.heap.size 9 i0 (.string ⟨#[]⟩) 1 16 Try.underlying29 hi hz0 hz1 hz2 rfl (by decide) _ _ _ rfl (hown2.alloc _) ⟨w2.heap.size, 0, none⟩ 1 1 [.string t] rfl rfl (one_at _ _ _) (one_str _) (by unfold maxLen; omega) (by omega) (by simp; omega) ?_; intro v3 w3 hown3 hg3 _)
              have hR3 := rat_app hown2 hgw hg3 hR2
              have hG4 := grown_app hG3 hown2 hg3
              have ho3 := own_snocS hown3
              clear hown3 hg3 hown2
              go_roundw
              case rel => exact .inl ⟨k + 1, z, l ++ [t], by omega, (readText_bounds HTE.out).2.1, by have := HM.out; go_num, by have := HL.out; show (l ++ [t]).length = k + 1; simp; omega, run_go _ _ _ _ _ _ _ HRUN.out HTE.out, ho3, hR3, hG4⟩
              case measure => simp [intOf]; omega
            · simp only at hok
              subst hok
              have HNO := Lib.hid (run_none s x (k + 1) n (run_fail s x k y l HRUN.out (by rw [HTE.out])) (by omega))
              go_wp2_with (at_builtin; refine wpList_append_own _ rfl (.tmp 23) (.tmp 26) 29 rfl w.heap.size 9 i0 (.string ⟨#[]⟩) 1 16 Try.underlying29 hi hz0 hz1 hz2 rfl (by decide) _ _ _ rfl (hown2.alloc _) ⟨w2.heap.size, 0, none⟩ 1 1 [.string ⟨#[]⟩] rfl rfl (one_at _ _ _) (one_str _) (by unfold maxLen; omega) (by omega) (by simp; omega) ?_; intro v3 w3 hown3 hg3 _)
              have hR3 := rat_app hown2 hgw hg3 hR2
              have hG4 := grown_app hG3 hown2 hg3
              clear hown3 hg3 hown2
              go_roundw
              case rel => exact .inr ⟨m - 1, q', by omega, by go_num, HNO.out, hR3, hG4⟩
              case measure => simp [intOf]; omega
          · have hkn : k = n := by omega
            have HKN := Lib.hid hkn
            have hm0 : n - k = 0 := by omega
            rw [hm0]
            clear hkn hm0
            go_wp2
            go_ret
            refine ⟨hG, .inr ⟨l, y, _, by rw [HZ.out, ← HKN.out]; exact HRUN.out, rfl, by rw [HL.out]; exact hown, by have := HL.out; omega, hR⟩⟩
        · have d2 := hR.c2
          by_cases hm0 : 0 < m
          · go_wp2
            go_ret
            exact ⟨hG, .inl ⟨by rw [HZ.out]; exact HNO.out, _, _, rfl, hR⟩⟩
          · go_wp2
            go_ret
            exact ⟨hG, .inl ⟨by rw [HZ.out]; exact HNO.out, _, _, rfl, hR⟩⟩
  · simp only at hok
    subst hok
    obtain ⟨rfl, rfl⟩ := M.read_false _ _ _ _ HR.out
    have hz : readTexts s q = none := by unfold readTexts; rw [HR.out]; simp
    have HZ := Lib.hid hz
    clear hz
    go_wp2
    refine wp_loop_rounds 1 ?_
    rw [rounds_succ]
    go_wp2
    go_ret
    exact ⟨hG, .inl ⟨HZ.out, _, _, rfl, hR⟩⟩

/-- What the model's ReadTexts hands back. -/
def SRPost (o : Option (List ByteArray × Nat)) (w : World) (e : Ending) (w' : World) : Prop :=
  Below w.heap.size w w' ∧
  ((o = none ∧ e = .returned (.tuple #[.slice none 0 0, .int .i64 0, .bool false])) ∨
   ∃ l z A c, o = some (l, z) ∧ e = .returned (.tuple #[.slice A l.length c, .int .i64 (z : Int), .bool true]) ∧ l.length ≤ 40 ∧ StrsAt w' A l)

set_option maxRecDepth 100000 in
set_option maxHeartbeats 1000000 in
theorem specReadTexts_yes (s : ByteArray) (q : Nat) (w : World) (h : Place s q) :
    Calls Try.prog 33 #[.string s, .int .i64 (q : Int)] w (SRPost (readTexts s q) w) := by
  have HP := Lib.hid h
  obtain ⟨h1, h2, h3⟩ := h
  go_enter Try.func33, Try.ntmps33
  go_wp2_with fail
  refine (l1Place_yes s q _ HP.out).mono ?_
  rintro e w' ⟨rfl, rfl⟩
  go_wp2_with fail
  refine (rtexts_any w.heap.size s q _ (rat_new w s q) h1 (by omega)).mono ?_
  rintro e w1 ⟨hG, hres⟩
  have hB : Below w.heap.size w w1 := (((Below.refl _ _).alloc (Nat.le_refl _) _).trans (below_of_grown hG (Nat.le_refl _) (by simp)))
  rcases hres with ⟨hok, v, q', rfl, hR⟩ | ⟨l, z, v, hok, rfl, hown, hl, hR⟩
  · have d2 := hR.c2
    have HK := Lib.hid hok
    clear hok hG
    go_wp2
    go_ret3
    exact ⟨hB, .inl ⟨HK.out, rfl⟩⟩
  · have d1 := hR.c1
    have d2 := hR.c2
    obtain ⟨A, c, rfl, hst⟩ := own_strs hown
    have HK := Lib.hid hok
    clear hok hG hown
    go_wp2_with fail
    go_quiet (fail)
    go_wp2
    go_ret3
    exact ⟨⟨hB.os, hB.tape, hB.output, hB.size, hB.block⟩, .inr ⟨l, z, A, c, HK.out, rfl, hl, hst.drewN _⟩⟩

set_option maxHeartbeats 400000 in
theorem implReadTexts_no (s : ByteArray) (q : Int) (w : World) (hm : s.size ≤ maxLen) (h : ¬ Place s q) :
    Calls Try.prog 26 #[.string s, .int .i64 q] w fun e w' => e = .returned (.tuple #[.slice none 0 0, .int .i64 0, .bool false]) ∧ w = w' := by
  have H := Lib.hid h
  clear h
  go_enter Try.func26, Try.ntmps26
  go_wp2_with fail
  refine (canRead_no s q _ hm H.out).mono ?_
  rintro e w' ⟨rfl, rfl⟩
  go_wp2
  go_ret3
  exact ⟨rfl, rfl⟩

set_option maxHeartbeats 400000 in
theorem specReadTexts_no (s : ByteArray) (q : Int) (w : World) (hm : s.size ≤ maxLen) (h : ¬ Place s q) :
    Calls Try.prog 33 #[.string s, .int .i64 q] w fun e w' => e = .returned (.tuple #[.slice none 0 0, .int .i64 0, .bool false]) ∧ w = w' := by
  have H := Lib.hid h
  clear h
  go_enter Try.func33, Try.ntmps33
  go_wp2_with fail
  refine (l1Place_no s q _ hm H.out).mono ?_
  rintro e w' ⟨rfl, rfl⟩
  go_wp2
  go_ret3
  exact ⟨rfl, rfl⟩
end Go.Proofs.Ytodfefaknclemaa
