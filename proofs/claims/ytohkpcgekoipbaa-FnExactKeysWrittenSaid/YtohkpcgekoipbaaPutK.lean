/-
  The contract of l4PutS of the model: a key put into a rising list, once.
-/
import Derived.Test.YtohkpcgekoipbaaOwnS
import Derived.Test.YtohkpcgekoipbaaKeysM
namespace Go.Proofs.Ytohkpcgekoipbaa
open Go.RowKit CM
set_option linter.unusedVariables false

/-- The list is nil, or lies from a block's start on. -/
def KForm (A : Option Addr) (c : Nat) (l : List ByteArray) : Prop := (A = none ∧ c = 0 ∧ l = []) ∨ ∃ b, A = some ⟨b, 0, none⟩ ∧ 0 < l.length ∧ l.length ≤ c
def PutKPost (l : List ByteArray) (s : ByteArray) (w : World) (e : Ending) (w' : World) : Prop :=
  ∃ A c l', e = .returned (.slice A l'.length c) ∧ StrsB w' w'.heap.size A l' ∧ KForm A c l' ∧ upB kLt l' = true ∧ (∀ x, x ∈ l' ↔ x = s ∨ x ∈ l) ∧ l'.length ≤ l.length + 1 ∧ Below w.heap.size w w'
theorem Own.kform {w : World} {lo hi c : Nat} {A : Option Addr} {xs : List ByteArray} (h : OwnS w lo hi A c xs) (hn : 0 < xs.length) : KForm A c xs := by
  obtain ⟨g, cur, hA, _, _, _, h1, _⟩ := h.form (by simpa using hn)
  exact .inr ⟨g, hA, hn, by simpa using h1⟩
theorem StrsB.take {w : World} {B : Nat} {A : Option Addr} {xs : List ByteArray} (h : StrsB w B A xs) (k : Nat) : StrsB w B A (xs.take k) := by
  by_cases h0 : (xs.take k).length = 0
  · have := List.eq_nil_of_length_eq_zero h0
    rw [this]; exact .inl rfl
  · simp only [List.length_take] at h0
    obtain ⟨b, off, hA, hb, hc⟩ := h.get (by omega)
    refine .inr ⟨b, off, hA, hb, fun j hj i hi => ?_⟩
    simp only [List.length_map, List.length_take] at hj
    have hi0 : i = 0 := by omega
    subst hi0
    rw [Nat.mul_one, Nat.add_zero, hc j (by omega), List.getElem_map, List.getElem_take]
    rfl
theorem StrsB.drop {w : World} {B : Nat} {b : Nat} {xs : List ByteArray} (h : StrsB w B (some ⟨b, 0, none⟩) xs) (k : Nat) (o : Nat) (ho : o = k) : StrsB w B (some ⟨b, o, none⟩) (xs.drop k) := by
  subst ho
  by_cases h0 : (xs.drop o).length = 0
  · have := List.eq_nil_of_length_eq_zero h0
    rw [this]; exact .inl rfl
  · simp only [List.length_drop] at h0
    obtain ⟨b', off, hA, hb, hc⟩ := h.get (by omega)
    injection hA with hA
    injection hA with h1 h2
    subst h1 h2
    refine .inr ⟨b, o, rfl, hb, fun j hj i hi => ?_⟩
    simp only [List.length_map, List.length_drop] at hj
    have hi0 : i = 0 := by omega
    subst hi0
    have := hc (o + j) (by omega)
    rw [Nat.zero_add] at this
    rw [Nat.mul_one, Nat.add_zero, this, List.getElem_map, List.getElem_drop]
    rfl

/-- What both ways of putting end with. -/
theorem putk_end {l : List ByteArray} {s : ByteArray} {q : Nat} {w w8 : World} {v : Value} {m : Nat} {lo : Nat} (hup : upB kLt l = true) (hq : q ≤ l.length) (hlo : ∀ h0 : 0 < q, kLt (l[q - 1]'(by omega)) s = true) (hhi : ∀ j (hj : j < l.length), q ≤ j → kLt s l[j] = true)
    (hown : w8.ownsRow lo 9 1 v m (((l.take q ++ s :: l.drop q).map strCs).flatten)) (hb : Below w.heap.size w w8) : PutKPost l s w (.returned v) w8 := by
  obtain ⟨h1, h2⟩ := rise_put hup hq hlo hhi
  obtain ⟨A, c, rfl, hm, ho⟩ := Own.ofRow hown (strCs_len _) (by decide) (fun k' hk' => (hown.lt k' hk').2)
  rw [List.length_map] at hm ⊢
  have hlen : (l.take q ++ s :: l.drop q).length = l.length + 1 := by
    rw [List.length_append, List.length_cons, List.length_take, List.length_drop]; omega
  exact ⟨A, c, _, rfl, OwnS.strs ho, Own.kform (lo := lo) (hi := w8.heap.size) ho (by omega), h1, h2, by omega, hb⟩

set_option maxRecDepth 100000 in
set_option maxHeartbeats 2000000 in
theorem l4PutS_nil (s : ByteArray) (w : World) :
    Calls Try.prog 36 #[.slice none 0 0, .string s] w (PutKPost [] s w) := by
  obtain ⟨i0, hi, hz0, hz1, hz2⟩ := info_parts infoStr
  have HUP := Lib.hid (show upB kLt ([] : List ByteArray) = true from rfl)
  have HQ := Lib.hid (show 0 ≤ ([] : List ByteArray).length from Nat.zero_le _)
  have HLO := Lib.hid (show ∀ h0 : 0 < 0, kLt (([] : List ByteArray)[0 - 1]'(by omega)) s = true from fun h0 => by omega)
  have HHI := Lib.hid (show ∀ j (hj : j < ([] : List ByteArray).length), 0 ≤ j → kLt s ([] : List ByteArray)[j] = true from fun j hj => by simp at hj)
  obtain ⟨T, hT⟩ : ∃ T, T = ([] : List ByteArray).take 0 := ⟨_, rfl⟩
  obtain ⟨D, hD⟩ : ∃ D, D = ([] : List ByteArray).drop 0 := ⟨_, rfl⟩
  have HC := Lib.hid (fun W => l1OwnS_any none 0 0 D 0 W (by rw [hD]; rfl) (by rw [hD]; exact .inl rfl) (Nat.zero_le _) (by omega))
  have HC' := Lib.hid (fun W => l1OwnS_any none 0 0 T 0 W (by rw [hT]; rfl) (by rw [hT]; exact .inl rfl) (Nat.zero_le _) (by omega))
  have hn1 : D.length ≤ 1048576 := by rw [hD]; simp
  have hn2 : T.length ≤ 1048576 := by rw [hT]; simp
  have HTE := Lib.hid hT
  have HDE := Lib.hid hD
  clear hT hD
  go_enter Try.func36, Try.ntmps36
  go_wp2
  go_loop [5] (fun i => i = .int .i64 0) (fun i => (intOf i).toNat)
  case atStart => rfl
  case round =>
    subst hrel
    go_wp2_with fail
    refine (HC.out _).mono ?_
    rintro e w1 ⟨A1, c1, rfl, ho1, hb1⟩
    go_wp2_with fail
    refine (HC'.out _).mono ?_
    rintro e w2 ⟨A2, c2, rfl, ho2, hb2⟩
    have HO1 := Lib.hid (ho1)
    have hrow2 := Own.toRow ho2 (strCs_len _) (by decide)
    rw [List.length_map] at hrow2
    have HR2 := Lib.hid hrow2
    have HB1 := Lib.hid hb1
    have HB2 := Lib.hid hb2
    clear hrow2 ho1 ho2 hb1 hb2
    go_wp2_with (at_builtin; first
      | (refine wpList_app rfl (.tmp 41) (.tmp 43) 32 rfl w1.heap.size 9 i0 _ 1 16 Try.underlying32 hi hz0 hz1 hz2 rfl (by decide) _ T.length ((T.map strCs).flatten) rfl (HR2.out.alloc _) (some ⟨w2.heap.size, 0, none⟩) 1 1 [.string s] rfl rfl (fun _ => ⟨_, rfl, fun j u hj => by
          match j, hj with
          | 0, hj => simp at hj; subst hj; simp [Addr.add]⟩) (by intro u hu; simp at hu; subst hu; rfl) (by unfold maxLen; omega) (by omega) (by have := HB2.out.size; simp; omega) ?_; intro v3 w3 hown3 hgrow3 hat3; have hb23 : Below w1.heap.size w1 w3 := ((HB2.out.alloc HB2.out.size _).grown hgrow3 (by have := HB2.out.size; simp; omega) (fun k hk => (HR2.out.lt k hk).1)); have HR3 := Lib.hid hown3; have HB3 := Lib.hid hb23; clear hown3 hb23 hat3 hgrow3)
      | (refine wpList_app rfl (.tmp 44) (.tmp 45) 32 rfl w1.heap.size 9 i0 _ 1 16 Try.underlying32 hi hz0 hz1 hz2 rfl (by decide) _ (T.length + 1) _ rfl HR3.out A1 D.length c1 ((D.map strCs).flatten) rfl (flatS_len _) (fun hp => by obtain ⟨ad, h1, h2, h3⟩ := (HO1.out.strs.below HB3.out).news hp; exact ⟨ad, h1, h3⟩) (strCs_one _) (by unfold maxLen; omega) (by omega) HB3.out.size ?_; intro v4 w4 hown4 hgrow4 hat4; have hb34 : Below w1.heap.size w1 w4 := HB3.out.grown hgrow4 HB3.out.size (fun k hk => (HR3.out.lt k hk).1)))
    have HF := Lib.hid (putk_end (w := w) (w8 := w4) (v := v4) (m := T.length + 1 + D.length) (lo := w1.heap.size) HUP.out HQ.out HLO.out HHI.out (by rw [← HTE.out, ← HDE.out, List.map_append, List.map_cons, List.flatten_append, List.flatten_cons, ← List.append_assoc]; exact hown4) (HB1.out.trans (hb34.mono HB1.out.size)))
    clear hown4 hgrow4 hat4 hb34
    go_ret
    exact HF.out

set_option maxRecDepth 100000 in
set_option maxHeartbeats 4000000 in
theorem l4PutS_some (b n c : Nat) (l : List ByteArray) (s : ByteArray) (w : World) (hn : l.length = n) (h0 : 0 < n) (hc : n ≤ c) (h : StrsB w w.heap.size (some ⟨b, 0, none⟩) l) (hup : upB kLt l = true) (hl : n ≤ 1048576) :
    Calls Try.prog 36 #[.slice (some ⟨b, 0, none⟩) n c, .string s] w (PutKPost l s w) := by
  obtain ⟨i0, hi, hz0, hz1, hz2⟩ := info_parts infoStr
  have HS := Lib.hid h
  have HUP := Lib.hid hup
  have HNL := Lib.hid hn
  have hbw : b < w.heap.size := by obtain ⟨b', o', hA, hb, _⟩ := h.get (by omega); injection hA with hA; injection hA with h1; omega
  have HCE := Lib.hid (fun j (hj : j < l.length) => by obtain ⟨b', o', hA, hb, hc⟩ := h.get (by omega); injection hA with hA; injection hA with h1 h2; subst h1 h2; have := hc j hj; rw [Nat.zero_add] at this; exact this : ∀ j (hj : j < l.length), w.cell? ⟨b, j, none⟩ = some (.string l[j]))
  clear h hup hn
  go_enter Try.func36, Try.ntmps36
  go_wp2
  go_loop [5] (fun i => ∃ q : Nat, q ≤ n ∧ i = .int .i64 q ∧ Hid (∀ j (hj : j < l.length), q ≤ j → kLt s l[j] = true)) (fun i => (intOf i).toNat)
  case atStart => exact ⟨n, Nat.le_refl _, rfl, fun j hj h => by rw [HNL.out] at hj; omega⟩
  case round =>
    obtain ⟨q, hq, rfl, HHI⟩ := hrel
    have HQ := Lib.hid (show q ≤ l.length by rw [HNL.out]; exact hq)
    rcases Nat.eq_zero_or_pos q with hz | hpos
    · subst hz
      have HLO := Lib.hid (show ∀ h0 : 0 < 0, kLt (l[0 - 1]'(by omega)) s = true from fun h0 => by omega)
      obtain ⟨T, hT⟩ : ∃ T, T = l.take 0 := ⟨_, rfl⟩
      obtain ⟨D, hD⟩ : ∃ D, D = l.drop 0 := ⟨_, rfl⟩
      have HDr := Lib.hid (l1OwnS_any (some ⟨b, 0, none⟩) n c D w.heap.size w (by rw [hD]; simp; exact HNL.out) (by rw [hD]; exact HS.out.drop 0 0 rfl) (Nat.le_refl _) (by omega))
      have HT := Lib.hid (fun W (hW : Below w.heap.size w W) => l1OwnS_any (some ⟨b, 0, none⟩) 0 c T w.heap.size W (by rw [hT]; rfl) (by rw [hT]; exact (HS.out.take 0).below hW) hW.size (by omega))
      have hn1 : D.length ≤ 1048576 := by rw [hD]; simp only [List.length_drop, HNL.out]; omega
      have hn2 : T.length ≤ 1048576 := by rw [hT]; simp only [List.length_take, HNL.out]; omega
      have HTE := Lib.hid hT
      have HDE := Lib.hid hD
      clear hT hD
      go_wp2_with fail
      refine HDr.out.mono ?_
      rintro e w1 ⟨A1, c1, rfl, ho1, hb1⟩
      have HB0 := Lib.hid hb1
      go_wp2_with fail
      refine (HT.out _ HB0.out).mono ?_
      rintro e w2 ⟨A2, c2, rfl, ho2, hb2⟩
      have HO1 := Lib.hid (ho1)
      have hrow2 := Own.toRow ho2 (strCs_len _) (by decide)
      rw [List.length_map] at hrow2
      have HR2 := Lib.hid hrow2
      have HB1 := Lib.hid hb1
      have HB2 := Lib.hid hb2
      clear hrow2 ho1 ho2 hb1 hb2
      go_wp2_with (at_builtin; first
        | (refine wpList_app rfl (.tmp 41) (.tmp 43) 32 rfl w1.heap.size 9 i0 _ 1 16 Try.underlying32 hi hz0 hz1 hz2 rfl (by decide) _ T.length ((T.map strCs).flatten) rfl (HR2.out.alloc _) (some ⟨w2.heap.size, 0, none⟩) 1 1 [.string s] rfl rfl (fun _ => ⟨_, rfl, fun j u hj => by
            match j, hj with
            | 0, hj => simp at hj; subst hj; simp [Addr.add]⟩) (by intro u hu; simp at hu; subst hu; rfl) (by unfold maxLen; omega) (by omega) (by have := HB2.out.size; simp; omega) ?_; intro v3 w3 hown3 hgrow3 hat3; have hb23 : Below w1.heap.size w1 w3 := ((HB2.out.alloc HB2.out.size _).grown hgrow3 (by have := HB2.out.size; simp; omega) (fun k hk => (HR2.out.lt k hk).1)); have HR3 := Lib.hid hown3; have HB3 := Lib.hid hb23; clear hown3 hb23 hat3 hgrow3)
        | (refine wpList_app rfl (.tmp 44) (.tmp 45) 32 rfl w1.heap.size 9 i0 _ 1 16 Try.underlying32 hi hz0 hz1 hz2 rfl (by decide) _ (T.length + 1) _ rfl HR3.out A1 D.length c1 ((D.map strCs).flatten) rfl (flatS_len _) (fun hp => by obtain ⟨ad, h1, h2, h3⟩ := (HO1.out.strs.below HB3.out).news hp; exact ⟨ad, h1, h3⟩) (strCs_one _) (by unfold maxLen; omega) (by omega) HB3.out.size ?_; intro v4 w4 hown4 hgrow4 hat4; have hb34 : Below w1.heap.size w1 w4 := HB3.out.grown hgrow4 HB3.out.size (fun k hk => (HR3.out.lt k hk).1)))
      have HF := Lib.hid (putk_end (w := w) (w8 := w4) (v := v4) (m := T.length + 1 + D.length) (lo := w1.heap.size) HUP.out HQ.out HLO.out HHI.out (by rw [← HTE.out, ← HDE.out, List.map_append, List.map_cons, List.flatten_append, List.flatten_cons, ← List.append_assoc]; exact hown4) (HB1.out.trans (hb34.mono HB1.out.size)))
      clear hown4 hgrow4 hat4 hb34
      go_ret
      exact HF.out
    · obtain ⟨p, rfl⟩ : ∃ p, q = p + 1 := ⟨q - 1, by omega⟩
      have hpl : p < l.length := by rw [HNL.out]; omega
      have c0 := HCE.out p hpl
      obtain ⟨x, hx⟩ : ∃ x, x = l[p] := ⟨_, rfl⟩
      rw [← hx] at c0
      have HX := Lib.hid hx
      have hp0 : (0 : Int) ≤ (p : Int) := by omega
      have hp1 : (p : Int) < (n : Int) := by omega
      have hdec : decide ((0 : Int) < (p : Int) + 1) = true := decide_eq_true (by omega)
      clear hx
      cases hbe : (x.toList == s.toList) with
      | true =>
        have hxs : x = s := list_inj (eq_of_beq hbe)
        have HF := Lib.hid (show PutKPost l s w (.returned (.slice (some ⟨b, 0, none⟩) n c)) w from ⟨_, c, l, by rw [HNL.out], HS.out, .inr ⟨b, rfl, by rw [HNL.out]; omega, by rw [HNL.out]; omega⟩, HUP.out, fun y => ⟨fun hy => .inr hy, fun hy => by rcases hy with rfl | hy; exact (by rw [← hxs, HX.out]; exact List.getElem_mem hpl); exact hy⟩, by omega, Below.refl _ _⟩)
        clear hxs
        go_wp2
        go_ret
        exact HF.out
      | false =>
        cases hbl : Op.bytesLess x.toList s.toList with
        | false =>
          have hgt : kLt s x = true := kLt_total (fun e => by rw [e] at hbe; simp at hbe) hbl
          have HHI' := Lib.hid (show ∀ j (hj : j < l.length), p ≤ j → kLt s l[j] = true from fun j hj hpj => by
            rcases Nat.eq_or_lt_of_le hpj with rfl | h2
            · rw [← HX.out]; exact hgt
            · exact HHI.out j hj h2)
          clear hgt
          go_wp2
          go_round
          case rel => exact ⟨p, by omega, by go_num, HHI'⟩
          case measure => simp [intOf]
        | true =>
          have HLO := Lib.hid (show ∀ h0 : 0 < p + 1, kLt (l[p + 1 - 1]'(by omega)) s = true from fun _ => by simp only [Nat.add_sub_cancel]; rw [← HX.out]; exact hbl)
          by_cases hqc : p + 1 = c
          · obtain rfl : n = p + 1 := by omega
            obtain rfl : c = p + 1 := by omega
            clear hqc
            obtain ⟨T, hT⟩ : ∃ T, T = l.take (p + 1) := ⟨_, rfl⟩
            obtain ⟨D, hD⟩ : ∃ D, D = l.drop (p + 1) := ⟨_, rfl⟩
            have HDr := Lib.hid (l1OwnS_any (some ⟨b, 0, none⟩) 0 0 D w.heap.size w (by rw [hD, List.length_drop, HNL.out]; omega) (by rw [hD]; exact .inl (by rw [List.map_eq_nil_iff]; exact List.drop_eq_nil_of_le (by rw [HNL.out]; omega))) (Nat.le_refl _) (by omega))
            have HT := Lib.hid (fun W (hW : Below w.heap.size w W) => l1OwnS_any (some ⟨b, 0, none⟩) (p + 1) (p + 1) T w.heap.size W (by rw [hT, List.length_take, HNL.out]; omega) (by rw [hT]; exact (HS.out.take (p + 1)).below hW) hW.size (by omega))
            have hn1 : D.length ≤ 1048576 := by rw [hD]; simp only [List.length_drop, HNL.out]; omega
            have hn2 : T.length ≤ 1048576 := by rw [hT]; simp only [List.length_take, HNL.out]; omega
            have HTE := Lib.hid hT
            have HDE := Lib.hid hD
            clear hT hD
            go_wp2_with fail
            refine HDr.out.mono ?_
            rintro e w1 ⟨A1, c1, rfl, ho1, hb1⟩
            have HB0 := Lib.hid hb1
            go_wp2_with fail
            refine (HT.out _ HB0.out).mono ?_
            rintro e w2 ⟨A2, c2, rfl, ho2, hb2⟩
            have HO1 := Lib.hid (ho1)
            have hrow2 := Own.toRow ho2 (strCs_len _) (by decide)
            rw [List.length_map] at hrow2
            have HR2 := Lib.hid hrow2
            have HB1 := Lib.hid hb1
            have HB2 := Lib.hid hb2
            clear hrow2 ho1 ho2 hb1 hb2
            go_wp2_with (at_builtin; first
              | (refine wpList_app rfl (.tmp 41) (.tmp 43) 32 rfl w1.heap.size 9 i0 _ 1 16 Try.underlying32 hi hz0 hz1 hz2 rfl (by decide) _ T.length ((T.map strCs).flatten) rfl (HR2.out.alloc _) (some ⟨w2.heap.size, 0, none⟩) 1 1 [.string s] rfl rfl (fun _ => ⟨_, rfl, fun j u hj => by
                  match j, hj with
                  | 0, hj => simp at hj; subst hj; simp [Addr.add]⟩) (by intro u hu; simp at hu; subst hu; rfl) (by unfold maxLen; omega) (by omega) (by have := HB2.out.size; simp; omega) ?_; intro v3 w3 hown3 hgrow3 hat3; have hb23 : Below w1.heap.size w1 w3 := ((HB2.out.alloc HB2.out.size _).grown hgrow3 (by have := HB2.out.size; simp; omega) (fun k hk => (HR2.out.lt k hk).1)); have HR3 := Lib.hid hown3; have HB3 := Lib.hid hb23; clear hown3 hb23 hat3 hgrow3)
              | (refine wpList_app rfl (.tmp 44) (.tmp 45) 32 rfl w1.heap.size 9 i0 _ 1 16 Try.underlying32 hi hz0 hz1 hz2 rfl (by decide) _ (T.length + 1) _ rfl HR3.out A1 D.length c1 ((D.map strCs).flatten) rfl (flatS_len _) (fun hp => by obtain ⟨ad, h1, h2, h3⟩ := (HO1.out.strs.below HB3.out).news hp; exact ⟨ad, h1, h3⟩) (strCs_one _) (by unfold maxLen; omega) (by omega) HB3.out.size ?_; intro v4 w4 hown4 hgrow4 hat4; have hb34 : Below w1.heap.size w1 w4 := HB3.out.grown hgrow4 HB3.out.size (fun k hk => (HR3.out.lt k hk).1)))
            have HF := Lib.hid (putk_end (w := w) (w8 := w4) (v := v4) (m := T.length + 1 + D.length) (lo := w1.heap.size) HUP.out HQ.out HLO.out HHI.out (by rw [← HTE.out, ← HDE.out, List.map_append, List.map_cons, List.flatten_append, List.flatten_cons, ← List.append_assoc]; exact hown4) (HB1.out.trans (hb34.mono HB1.out.size)))
            clear hown4 hgrow4 hat4 hb34
            go_ret
            exact HF.out
          · skip
            obtain ⟨T, hT⟩ : ∃ T, T = l.take (p + 1) := ⟨_, rfl⟩
            obtain ⟨D, hD⟩ : ∃ D, D = l.drop (p + 1) := ⟨_, rfl⟩
            have HDr := Lib.hid (l1OwnS_any (some ⟨b, p + 1, none⟩) (n - (p + 1)) (c - (p + 1)) D w.heap.size w (by rw [hD, List.length_drop, HNL.out]) (by rw [hD]; exact HS.out.drop (p + 1) (p + 1) rfl) (Nat.le_refl _) (by omega))
            have HT := Lib.hid (fun W (hW : Below w.heap.size w W) => l1OwnS_any (some ⟨b, 0, none⟩) (p + 1) c T w.heap.size W (by rw [hT, List.length_take, HNL.out]; omega) (by rw [hT]; exact (HS.out.take (p + 1)).below hW) hW.size (by omega))
            have hn1 : D.length ≤ 1048576 := by rw [hD]; simp only [List.length_drop, HNL.out]; omega
            have hn2 : T.length ≤ 1048576 := by rw [hT]; simp only [List.length_take, HNL.out]; omega
            have HTE := Lib.hid hT
            have HDE := Lib.hid hD
            clear hT hD
            go_wp2_with fail
            refine HDr.out.mono ?_
            rintro e w1 ⟨A1, c1, rfl, ho1, hb1⟩
            have HB0 := Lib.hid hb1
            go_wp2_with fail
            refine (HT.out _ HB0.out).mono ?_
            rintro e w2 ⟨A2, c2, rfl, ho2, hb2⟩
            have HO1 := Lib.hid (ho1)
            have hrow2 := Own.toRow ho2 (strCs_len _) (by decide)
            rw [List.length_map] at hrow2
            have HR2 := Lib.hid hrow2
            have HB1 := Lib.hid hb1
            have HB2 := Lib.hid hb2
            clear hrow2 ho1 ho2 hb1 hb2
            go_wp2_with (at_builtin; first
              | (refine wpList_app rfl (.tmp 41) (.tmp 43) 32 rfl w1.heap.size 9 i0 _ 1 16 Try.underlying32 hi hz0 hz1 hz2 rfl (by decide) _ T.length ((T.map strCs).flatten) rfl (HR2.out.alloc _) (some ⟨w2.heap.size, 0, none⟩) 1 1 [.string s] rfl rfl (fun _ => ⟨_, rfl, fun j u hj => by
                  match j, hj with
                  | 0, hj => simp at hj; subst hj; simp [Addr.add]⟩) (by intro u hu; simp at hu; subst hu; rfl) (by unfold maxLen; omega) (by omega) (by have := HB2.out.size; simp; omega) ?_; intro v3 w3 hown3 hgrow3 hat3; have hb23 : Below w1.heap.size w1 w3 := ((HB2.out.alloc HB2.out.size _).grown hgrow3 (by have := HB2.out.size; simp; omega) (fun k hk => (HR2.out.lt k hk).1)); have HR3 := Lib.hid hown3; have HB3 := Lib.hid hb23; clear hown3 hb23 hat3 hgrow3)
              | (refine wpList_app rfl (.tmp 44) (.tmp 45) 32 rfl w1.heap.size 9 i0 _ 1 16 Try.underlying32 hi hz0 hz1 hz2 rfl (by decide) _ (T.length + 1) _ rfl HR3.out A1 D.length c1 ((D.map strCs).flatten) rfl (flatS_len _) (fun hp => by obtain ⟨ad, h1, h2, h3⟩ := (HO1.out.strs.below HB3.out).news hp; exact ⟨ad, h1, h3⟩) (strCs_one _) (by unfold maxLen; omega) (by omega) HB3.out.size ?_; intro v4 w4 hown4 hgrow4 hat4; have hb34 : Below w1.heap.size w1 w4 := HB3.out.grown hgrow4 HB3.out.size (fun k hk => (HR3.out.lt k hk).1)))
            have HF := Lib.hid (putk_end (w := w) (w8 := w4) (v := v4) (m := T.length + 1 + D.length) (lo := w1.heap.size) HUP.out HQ.out HLO.out HHI.out (by rw [← HTE.out, ← HDE.out, List.map_append, List.map_cons, List.flatten_append, List.flatten_cons, ← List.append_assoc]; exact hown4) (HB1.out.trans (hb34.mono HB1.out.size)))
            clear hown4 hgrow4 hat4 hb34
            go_ret
            exact HF.out
end Go.Proofs.Ytohkpcgekoipbaa
