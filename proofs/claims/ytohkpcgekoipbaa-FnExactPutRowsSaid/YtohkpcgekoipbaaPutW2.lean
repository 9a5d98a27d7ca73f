/-
  The contract of l5PutW of the model.
-/
import Derived.Test.YtohkpcgekoipbaaPutWS
import Derived.Deep.RegionLaw
namespace Go.Proofs.Ytohkpcgekoipbaa
open Go Go.RowKit CM
set_option linter.unusedVariables false

theorem alloc_fst2 (w : World) (o p : Obj) : ((w.alloc o).alloc p).heap[w.heap.size]? = some o := (Below.heap_alloc _ _ _ (by simp)).trans (heap_alloc_new w o)
theorem WritesB.news {w : World} {B : Nat} {A : Option Addr} {ws : List (ByteArray × ByteArray × Bool)} (h : WritesB w B A ws) (hp : 0 < ws.length) : ∃ ad, A = some ad ∧ ∀ j u, ((ws.map wrCs).flatten)[j]? = some u → w.cell? (ad.add j) = some u := by
  obtain ⟨b, off, rfl, hlt, _⟩ := h.get hp
  exact ⟨_, rfl, row_src h (wrCs_len _) (by decide)⟩
/-- A row of the call's own as what is appended. -/
theorem row_news {w : World} {base sz n : Nat} {t : TypeId} {v : Value} {xs : List Value} (h : w.ownsRow base t sz v n xs) : ∃ A c, v = .slice A n c ∧ ∀ W, Below w.heap.size w W → 0 < n → ∃ ad, A = some ad ∧ ∀ j u, xs[j]? = some u → W.cell? (ad.add j) = some u := by
  rcases h.2 with ⟨h2, h3⟩ | ⟨g, cap, cur, h2, hb, hh, hnc, hm, hs, ht⟩
  · subst h3
    exact ⟨none, 0, h2, fun W hW h => absurd h (by omega)⟩
  · refine ⟨_, cap, h2, fun W hW hp => ⟨_, rfl, fun j u hj => ?_⟩⟩
    have hadd : (⟨g, 0, none⟩ : Addr).add j = ⟨g, 0 + j, none⟩ := by unfold Addr.add; split <;> simp_all
    rw [hadd, Nat.zero_add, hW.cell (p := ⟨g, j, none⟩) (lt_blk hh)]
    refine cell_blk hh ?_
    rw [← ht, List.getElem?_take] at hj
    split at hj
    · rw [← Array.getElem?_toList]; exact hj
    · cases hj
theorem WritesB.takeW {w : World} {B : Nat} {A : Option Addr} {ws : List (ByteArray × ByteArray × Bool)} (h : WritesB w B A ws) (k : Nat) : WritesB w B A (ws.take k) := by
  rcases h with h | ⟨b, off, hA, hlt, hc⟩
  · rw [List.map_eq_nil_iff] at h; subst h; exact .inl (by simp)
  · refine .inr ⟨b, off, hA, hlt, fun j hj i hi => ?_⟩
    simp only [List.length_map, List.length_take] at hj
    rw [hc j (by rw [List.length_map]; omega) i hi]
    simp only [List.getElem_map, List.getElem_take]
theorem WritesB.dropW {w : World} {B g : Nat} {ws : List (ByteArray × ByteArray × Bool)} (h : WritesB w B (some ⟨g, 0, none⟩) ws) (k o : Nat) (ho : o = k * 3) : WritesB w B (some ⟨g, o, none⟩) (ws.drop k) := by
  rcases h with h | ⟨b, off, hA, hlt, hc⟩
  · rw [List.map_eq_nil_iff] at h; subst h; exact .inl (by simp)
  · injection hA with hA
    injection hA with e1 e2
    subst e1 e2
    refine .inr ⟨g, o, rfl, hlt, fun j hj i hi => ?_⟩
    simp only [List.length_map, List.length_drop] at hj
    have := hc (k + j) (by rw [List.length_map]; omega) i hi
    rw [show o + j * 3 + i = 0 + (k + j) * 3 + i by omega, this]
    simp only [List.getElem_map, List.getElem_drop]

set_option maxRecDepth 100000 in
set_option maxHeartbeats 4000000 in
theorem l5PutW_some (g n c : Nat) (l : List (ByteArray × ByteArray × Bool)) (xk xv : ByteArray) (xg : Bool) (lo : Nat) (w : World) (hn : l.length = n) (h : w.ownsRow lo 74 3 (.slice (some ⟨g, 0, none⟩) n c) n (l.map wrCs).flatten) (hlo : lo ≤ w.heap.size) (hl : n ≤ 100000) (h00 : 0 < n) (hup : upB wLt l = true) :
    Calls Try.prog 64 #[.slice (some ⟨g, 0, none⟩) n c, .agg #[.string xk, .string xv, .bool xg]] w (PutWPost l (xk, xv, xg) w) := by
  have how : Own w lo w.heap.size 74 3 (some ⟨g, 0, none⟩) c (l.map wrCs) := by
    obtain ⟨A', c', hv, _, ho⟩ := Own.ofRow h (wrCs_len _) (by decide) (hi := w.heap.size) (fun k hk => (h.lt k hk).2)
    injection hv with h1 h2 h3
    clear h2
    subst h1 h3
    exact ho
  have hnc : n ≤ c := by
    rcases h.2 with ⟨h2, h3⟩ | ⟨g, cap, cur, h2, _, _, h3, _⟩
    · omega
    · injection h2 with _ _ h4; omega
  have HB := Lib.hid (show WritesB w w.heap.size (some ⟨g, 0, none⟩) l from how.row)
  have hgw : g < w.heap.size := (how.block _ rfl).2.1
  obtain ⟨i0, hi, hz0, hz1, hz2⟩ := info_parts infoWrite
  have hal := below1 w (.cells #[.string xk, .string xv, .bool xg] 74)
  have hbx := heap_alloc_new w (.cells #[.string xk, .string xv, .bool xg] 74)
  obtain ⟨wa, hwa⟩ : ∃ wa, wa = w.alloc (.cells #[.string xk, .string xv, .bool xg] 74) := ⟨_, rfl⟩
  rw [← hwa] at hal hbx
  have hsa : w.heap.size < wa.heap.size := by rw [hwa]; simp
  have HWA := Lib.hid hwa
  have HAL := Lib.hid hal
  have HBX := Lib.hid hbx
  clear hwa hal hbx
  have HOW := Lib.hid how
  have HN := Lib.hid hn
  have HUP := Lib.hid hup
  clear h how hn hup
  go_enter Try.func64, Try.ntmps64
  go_wp2
  rw [← HWA.out]
  go_loopw [5] (fun i wi => ∃ q : Nat, q ≤ n ∧ i = .int .i64 q ∧ Hid (∀ j (hj : j < l.length), q ≤ j → kLt xk l[j].1 = true) ∧ Below wa.heap.size wa wi) (fun i _ => (intOf i).toNat)
  case atStart => exact ⟨n, Nat.le_refl _, rfl, fun j hj h => by rw [HN.out] at hj; omega, Below.refl _ _⟩
  case round =>
    obtain ⟨q, hq, rfl, HHI, hbi⟩ := hrel
    have z0 := (hbi.cell (p := ⟨w.heap.size, 0, none⟩) hsa).trans (cell_blk (i := 0) HBX.out rfl)
    have z1 := (hbi.cell (p := ⟨w.heap.size, 1, none⟩) hsa).trans (cell_blk (i := 1) HBX.out rfl)
    have z2 := (hbi.cell (p := ⟨w.heap.size, 2, none⟩) hsa).trans (cell_blk (i := 2) HBX.out rfl)
    have HBI := Lib.hid hbi
    clear hbi
    rcases Nat.eq_zero_or_pos q with h0 | h0
    · subst h0
      have HLO := Lib.hid (show ∀ j (hj : j < l.length), j < 0 → kLt l[j].1 xk = true from fun j hj h => absurd h (by omega))
      obtain ⟨XQ, hXQ⟩ : ∃ XQ, XQ = ((l.take (0)).map wrCs).flatten := ⟨_, rfl⟩
      obtain ⟨XR, hXR⟩ : ∃ XR, XR = ((l.drop (0)).map wrCs).flatten := ⟨_, rfl⟩
      have HQL := Lib.hid (show XQ.length = (0) * 3 by rw [hXQ, flat_len (wrCs_len _), List.length_map, List.length_take, HN.out]; omega)
      have HRL := Lib.hid (show XR.length = (n - (0)) * 3 by rw [hXR, flat_len (wrCs_len _), List.length_map, List.length_drop, HN.out])
      have HQ1 := Lib.hid (show ∀ u ∈ XQ, u.oneCell' = true by rw [hXQ]; exact wrCs_one _)
      have HR1 := Lib.hid (show ∀ u ∈ XR, u.oneCell' = true by rw [hXR]; exact wrCs_one _)
      have HQN0 := Lib.hid (fun W (hW : Below w.heap.size w W) (hp : 0 < (0)) => (show ∃ ad, (some ⟨g, 0, none⟩ : Option Addr) = some ad ∧ ∀ j u, XQ[j]? = some u → W.cell? (ad.add j) = some u by rw [hXQ]; exact ((HB.out.below hW).takeW (0)).news (by rw [List.length_take, HN.out]; omega)))
      have HRN0 := Lib.hid (fun W (hW : Below w.heap.size w W) (hp : 0 < n - (0)) => (show ∃ ad, (some ⟨g, 0, none⟩ : Option Addr) = some ad ∧ ∀ j u, XR[j]? = some u → W.cell? (ad.add j) = some u by rw [hXR]; exact ((HB.out.below hW).dropW (0) _ (by omega)).news (by rw [List.length_drop, HN.out]; exact hp)))
      have PF0 := Lib.hid (fun (W9 : World) (h9 : Below w.heap.size w W9) (v8 : Value) (w8 : World) (h1 : w8.ownsRow W9.heap.size 74 3 v8 (n + 1) ((XQ ++ [.string xk, .string xv, .bool xg]) ++ XR)) (h2 : Below W9.heap.size W9 w8) => putw_new (l := l) (x := (xk, xv, xg)) (q := 0) (n := n) (w := w) (v := v8) HN.out HUP.out (by omega) HLO.out HHI.out h9.size (by rw [← hXQ, ← hXR]; exact h1) (h9.trans (h2.mono h9.size)))
      have HBW := Lib.hid (HAL.out.trans (HBI.out.mono HAL.out.size))
      obtain ⟨L0, hL0⟩ : ∃ L0, L0 = l := ⟨_, rfl⟩
      rw [← hL0] at PF0 ⊢
      have HL0 := Lib.hid hL0
      clear hXQ hXR hL0
      rw [show ((0 : Nat) : Int) = (0 : Int) from rfl]
      have hc0 : ¬ (c = 0) := by omega
      have hc1 : 0 < c := by omega
      go_wp2_with fail
      go_quiet (fail)
      go_wp2_with fail
      go_quiet (fail)
      go_wp2_with (at_builtin; (refine wpList_app rfl (.tmp 47) (.tmp 50) 40 rfl w.heap.size 74 i0 _ 3 40 Try.underlying40 hi hz0 hz1 hz2 rfl (by decide) _ 0 [] rfl (own_at ?_ (heap_alloc_new _ _)) (some ⟨g, 0, none⟩) (n) _ XR rfl HRL.out ?_ HR1.out (by unfold maxLen; omega) (by omega) ?_ ?_; (· (have := HBW.out.size; simp; omega)); (· exact fun hp => HRN0.out _ (((below_drewN HBW.out _)).alloc HBW.out.size _) hp); (· (have := HBW.out.size; simp; omega)); intro v7 w7 hown7 hgrow7 hat7))
      rw [Nat.zero_add, List.nil_append] at hown7
      have hb79 : Below wr.heap.size wr w7 := (((below_drewN (Below.refl wr.heap.size wr) _)).alloc (Nat.le_refl _) _).grown hgrow7 (by simp <;> omega) (fun k hk => Nat.le_of_eq (Option.some.inj (show some wr.heap.size = some k from hk)))
      have hb7 := HBW.out.trans (hb79.mono HBW.out.size)
      have hlr : w.heap.size < wr.heap.size := Nat.lt_of_lt_of_le hsa HBI.out.size
      have y0 := (hb79.cell (p := ⟨w.heap.size, 0, none⟩) hlr).trans z0
      have y1 := (hb79.cell (p := ⟨w.heap.size, 1, none⟩) hlr).trans z1
      have y2 := (hb79.cell (p := ⟨w.heap.size, 2, none⟩) hlr).trans z2
      have hbw : w.heap.size < w7.heap.size := Nat.lt_of_lt_of_le hlr hb79.size
      obtain ⟨A7, c7, rfl, hrn⟩ := row_news hown7
      have HRN := Lib.hid hrn
      have HB7 := Lib.hid hb7
      have HQN := Lib.hid (fun W (hW : Below w7.heap.size w7 W) => HQN0.out W (HB7.out.trans (hW.mono HB7.out.size)))
      have PF := Lib.hid (fun v8 w8 h1 h2 => PF0.out w7 HB7.out v8 w8 h1 h2)
      clear hown7 hgrow7 hat7 hb79 hb7 hrn z0 z1 z2
      go_wp2_with fail
      have HQZ := Lib.hid (List.eq_nil_of_length_eq_zero (show XQ.length = 0 by rw [HQL.out]))
      go_region_law (first | ((refine step_app rfl (.tmp 56) (.tmp 58) 40 rfl w7.heap.size 74 i0 _ 3 40 Try.underlying40 hi hz0 hz1 hz2 rfl (by decide) (.slice (some ⟨w7.heap.size, 0, none⟩) 0 0) 0 [] ?_ (own_at ?_ ?_) (some ⟨w7.heap.size + 1, 0, none⟩) 1 1 [.string xk, .string xv, .bool xg] ?_ rfl (fun _ => ⟨_, rfl, World.news_of_block (cs := #[.string xk, .string xv, .bool xg]) (t := 74) (fr := (0, 0)) ?_⟩) ?_ ?_ ?_ ?_ ?_; (· (simp [Act.eval])); (· omega); (· (first | exact heap_alloc_new _ _ | exact alloc_snd _ _ _ | exact alloc_fst2 _ _ _)); (· (simp [Act.eval])); (· (first | exact heap_alloc_new _ _ | exact alloc_snd _ _ _ | exact alloc_fst2 _ _ _)); (· (simp [Value.oneCell'])); (· (unfold maxLen; omega)); (· omega); (· (simp <;> omega)); intro v6 w6 hown6 hgrow6 hat6; have hb6 : Below w7.heap.size w7 w6 := Below.grown (by repeat (first | exact Below.refl _ _ | apply Below.drew | (refine Below.alloc ?_ (by simp <;> omega) _))) hgrow6 (by simp <;> omega) (fun k hk => Nat.le_trans (show w7.heap.size ≤ w7.heap.size by omega) (Nat.le_of_eq (Option.some.inj (show some (w7.heap.size) = some k from hk)))))) | ((refine step_app rfl (.tmp 56) (.tmp 58) 40 rfl w7.heap.size 74 i0 _ 3 40 Try.underlying40 hi hz0 hz1 hz2 rfl (by decide) (.slice (some ⟨w7.heap.size + 1, 0, none⟩) 0 0) 0 [] ?_ (own_at ?_ ?_) (some ⟨w7.heap.size, 0, none⟩) 1 1 [.string xk, .string xv, .bool xg] ?_ rfl (fun _ => ⟨_, rfl, World.news_of_block (cs := #[.string xk, .string xv, .bool xg]) (t := 74) (fr := (0, 0)) ?_⟩) ?_ ?_ ?_ ?_ ?_; (· (simp [Act.eval])); (· omega); (· (first | exact heap_alloc_new _ _ | exact alloc_snd _ _ _ | exact alloc_fst2 _ _ _)); (· (simp [Act.eval])); (· (first | exact heap_alloc_new _ _ | exact alloc_snd _ _ _ | exact alloc_fst2 _ _ _)); (· (simp [Value.oneCell'])); (· (unfold maxLen; omega)); (· omega); (· (simp <;> omega)); intro v6 w6 hown6 hgrow6 hat6; have hb6 : Below w7.heap.size w7 w6 := Below.grown (by repeat (first | exact Below.refl _ _ | apply Below.drew | (refine Below.alloc ?_ (by simp <;> omega) _))) hgrow6 (by simp <;> omega) (fun k hk => Nat.le_trans (show w7.heap.size ≤ w7.heap.size + 1 by omega) (Nat.le_of_eq (Option.some.inj (show some (w7.heap.size + 1) = some k from hk)))))) | ((refine step_app rfl (.tmp 59) (.tmp 60) 40 rfl w7.heap.size 74 i0 _ 3 40 Try.underlying40 hi hz0 hz1 hz2 rfl (by decide) v6 (0 + 1) _ ?_ hown6 A7 n c7 XR ?_ HRL.out (fun hp => HRN.out _ hb6 hp) HR1.out ?_ ?_ ?_ ?_; (· (simp [Act.eval])); (· (simp [Act.eval])); (· (unfold maxLen; omega)); (· omega); (· (have := hb6.size; omega)); intro v8 w8 hown8 hgrow8 hat8; have hb8 : Below w7.heap.size w7 w8 := Below.grown hb6 hgrow8 hb6.size (fun k hk => (hown6.lt k hk).1))))
      all_goals (
        have e8 : 0 + 1 + n = n + 1 := by omega
        rw [e8, List.nil_append] at hown8
        have HF := Lib.hid (PF.out v8 w8 (by rw [HQZ.out, List.nil_append]; exact hown8) hb8)
        clear e8 hown8 hgrow8 hat8 hown6 hgrow6 hat6 hb6 hb8
        go_wp2
        go_ret
        rw [HL0.out] at HF
        exact HF.out)
    · obtain ⟨p, rfl⟩ : ∃ p, q = p + 1 := ⟨q - 1, by omega⟩
      have hpos : decide ((0 : Int) < (p : Int) + 1) = true := decide_eq_true (by omega)
      have hpl : p < l.length := by rw [HN.out]; omega
      obtain ⟨b8, o8, hA8, hb8', hc8⟩ := HB.out.get (by rw [HN.out]; omega)
      injection hA8 with hA8
      injection hA8 with e8 e9
      subst e8 e9
      obtain ⟨d0, d1, d2⟩ := hc8 p hpl
      have hbW := HAL.out.trans (HBI.out.mono HAL.out.size)
      have e0 := (hbW.cell (p := ⟨g, 0 + p * 3, none⟩) hgw).trans d0
      have e1 := (hbW.cell (p := ⟨g, 0 + p * 3 + 1, none⟩) hgw).trans d1
      have e2 := (hbW.cell (p := ⟨g, 0 + p * 3 + 2, none⟩) hgw).trans d2
      rw [Nat.zero_add] at e0 e1 e2
      have HLT := Lib.hid (show ∀ j (hj : j < l.length), j < p → kLt l[j].1 l[p].1 = true from fun j hj h => keysW_lt HUP.out h hpl)
      obtain ⟨y, hy⟩ : ∃ y, y = l[p]'hpl := ⟨_, rfl⟩
      have HY := Lib.hid hy
      rw [← hy] at e0 e1 e2 HLT
      obtain ⟨s1, s2, u⟩ := y
      simp only at e0 e1 e2 HLT
      have hp0 : (0 : Int) ≤ (p : Int) := by omega
      have hp1 : (p : Int) < (n : Int) := by omega
      clear hc8 d0 d1 d2 hy hbW hb8'
      cases hk2 : kEq s1 xk with
      | false =>
        have hbe : (s1.toList == xk.toList) = false := hk2
        cases hk1 : kLt s1 xk with
        | false =>
          have hbl : Op.bytesLess s1.toList xk.toList = false := hk1
          have hgt : kLt xk s1 = true := kLt_total (fun e => by rw [e, kEq_self] at hk2; cases hk2) hk1
          have HHI' := Lib.hid (show ∀ j (hj : j < l.length), p ≤ j → kLt xk l[j].1 = true from fun j hj hpj => by
            rcases Nat.eq_or_lt_of_le hpj with rfl | h2
            · rw [← HY.out]; exact hgt
            · exact HHI.out j hj h2)
          clear hk1 hk2 hgt
          go_wp2_with fail
          go_quiet (fail)
          go_wp2
          go_roundw
          case rel => exact ⟨p, by omega, by go_num, HHI'.out, below_drewN HBI.out _⟩
          case measure => simp [intOf]
        | true =>
          have hbl : Op.bytesLess s1.toList xk.toList = true := hk1
          have HLO := Lib.hid (show ∀ j (hj : j < l.length), j < p + 1 → kLt l[j].1 xk = true from fun j hj h => by
            rcases Nat.eq_or_lt_of_le (show j ≤ p by omega) with rfl | h2
            · rw [← HY.out]; exact hk1
            · exact kLt_trans (HLT.out j hj h2) hk1)
          clear hk1 hk2 HLT
          by_cases hqn : p + 1 = n
          · obtain rfl : n = p + 1 := hqn.symm
            clear hqn
            obtain ⟨XQ, hXQ⟩ : ∃ XQ, XQ = ((l.take (p + 1)).map wrCs).flatten := ⟨_, rfl⟩
            obtain ⟨XR, hXR⟩ : ∃ XR, XR = ((l.drop (p + 1)).map wrCs).flatten := ⟨_, rfl⟩
            have HQL := Lib.hid (show XQ.length = (p + 1) * 3 by rw [hXQ, flat_len (wrCs_len _), List.length_map, List.length_take, HN.out]; omega)
            have HRL := Lib.hid (show XR.length = ((p + 1) - (p + 1)) * 3 by rw [hXR, flat_len (wrCs_len _), List.length_map, List.length_drop, HN.out])
            have HQ1 := Lib.hid (show ∀ u ∈ XQ, u.oneCell' = true by rw [hXQ]; exact wrCs_one _)
            have HR1 := Lib.hid (show ∀ u ∈ XR, u.oneCell' = true by rw [hXR]; exact wrCs_one _)
            have HQN0 := Lib.hid (fun W (hW : Below w.heap.size w W) (hp : 0 < (p + 1)) => (show ∃ ad, (some ⟨g, 0, none⟩ : Option Addr) = some ad ∧ ∀ j u, XQ[j]? = some u → W.cell? (ad.add j) = some u by rw [hXQ]; exact ((HB.out.below hW).takeW (p + 1)).news (by rw [List.length_take, HN.out]; omega)))
            have HRN0 := Lib.hid (fun W (hW : Below w.heap.size w W) (hp : 0 < (p + 1) - (p + 1)) => (show ∃ ad, (some ⟨g, 0, none⟩ : Option Addr) = some ad ∧ ∀ j u, XR[j]? = some u → W.cell? (ad.add j) = some u by rw [hXR]; exact ((HB.out.below hW).dropW (p + 1) _ (by omega)).news (by rw [List.length_drop, HN.out]; exact hp)))
            have PF0 := Lib.hid (fun (W9 : World) (h9 : Below w.heap.size w W9) (v8 : Value) (w8 : World) (h1 : w8.ownsRow W9.heap.size 74 3 v8 ((p + 1) + 1) ((XQ ++ [.string xk, .string xv, .bool xg]) ++ XR)) (h2 : Below W9.heap.size W9 w8) => putw_new (l := l) (x := (xk, xv, xg)) (q := p + 1) (n := (p + 1)) (w := w) (v := v8) HN.out HUP.out (by omega) HLO.out HHI.out h9.size (by rw [← hXQ, ← hXR]; exact h1) (h9.trans (h2.mono h9.size)))
            have HBW := Lib.hid (HAL.out.trans (HBI.out.mono HAL.out.size))
            obtain ⟨L0, hL0⟩ : ∃ L0, L0 = l := ⟨_, rfl⟩
            rw [← hL0] at PF0 ⊢
            have HL0 := Lib.hid hL0
            clear hXQ hXR hL0
            have HLR := Lib.hid (Nat.lt_of_lt_of_le hsa HBI.out.size)
            have hq0 : (0 : Int) ≤ (p : Int) + 1 := by omega
            by_cases hqc : c = p + 1
            · subst hqc
              go_wp2_with fail
              go_quiet (fail)
              rename Nat => na
              go_wp2_with fail
              go_quiet (fail)
              rename Nat => nb
              go_wp2_with fail
              obtain ⟨W9, hW9⟩ : ∃ W, W = (World.drewN wr (na + nb)).alloc (Obj.cells #[] 74) := ⟨_, rfl⟩
              rw [← hW9]
              have hb79 : Below wr.heap.size wr W9 := by rw [hW9]; exact (below_drewN (Below.refl wr.heap.size wr) _).alloc (Nat.le_refl _) _
              have hb7 := HBW.out.trans (hb79.mono HBW.out.size)
              have hlr : w.heap.size < wr.heap.size := HLR.out
              have y0 := (hb79.cell (p := ⟨w.heap.size, 0, none⟩) hlr).trans z0
              have y1 := (hb79.cell (p := ⟨w.heap.size, 1, none⟩) hlr).trans z1
              have y2 := (hb79.cell (p := ⟨w.heap.size, 2, none⟩) hlr).trans z2
              have hbw : w.heap.size < W9.heap.size := Nat.lt_of_lt_of_le hlr hb79.size
              have HB7 := Lib.hid hb7
              have PF := Lib.hid (fun v8 w8 h1 h2 => PF0.out W9 HB7.out v8 w8 h1 h2)
              clear hb79 hb7 hW9
              have HQN := Lib.hid (fun W (hW : Below W9.heap.size W9 W) => HQN0.out W (HB7.out.trans (hW.mono HB7.out.size)))
              have HRN := Lib.hid (fun (W : World) (hW : Below W9.heap.size W9 W) (hp : 0 < 0) => (show ∃ ad, (some (⟨wr.heap.size, 0, none⟩ : Addr)) = some ad ∧ ∀ j u, XR[j]? = some u → W.cell? (ad.add j) = some u from absurd hp (by omega)))
              have HRL0 := Lib.hid (show XR.length = 0 * 3 by rw [HRL.out]; omega)
              clear z0 z1 z2
              go_region_law (first | ((refine step_app rfl (.tmp 52) (.tmp 55) 40 rfl W9.heap.size 74 i0 _ 3 40 Try.underlying40 hi hz0 hz1 hz2 rfl (by decide) (.slice (some ⟨W9.heap.size, 0, none⟩) 0 0) 0 [] ?_ (own_at ?_ ?_) (some ⟨g, 0, none⟩) (p + 1) (p + 1) XQ ?_ HQL.out ?_ HQ1.out ?_ ?_ ?_ ?_; (· (simp [Act.eval])); (· omega); (· (first | exact heap_alloc_new _ _ | exact alloc_snd _ _ _ | exact alloc_fst2 _ _ _)); (· (simp [Act.eval])); (· exact fun hp => HQN.out _ (by repeat (first | exact Below.refl _ _ | apply Below.drew | (refine Below.alloc ?_ (by simp <;> omega) _))) hp); (· (unfold maxLen; omega)); (· omega); (· (simp <;> omega)); intro v5 w5 hown5 hgrow5 hat5; have hb5 : Below W9.heap.size W9 w5 := Below.grown (by repeat (first | exact Below.refl _ _ | apply Below.drew | (refine Below.alloc ?_ (by simp <;> omega) _))) hgrow5 (by simp <;> omega) (fun k hk => Nat.le_trans (show W9.heap.size ≤ W9.heap.size by omega) (Nat.le_of_eq (Option.some.inj (show some (W9.heap.size) = some k from hk)))); have y50 := (hb5.cell (p := ⟨w.heap.size, 0, none⟩) hbw).trans y0; have y51 := (hb5.cell (p := ⟨w.heap.size, 1, none⟩) hbw).trans y1; have y52 := (hb5.cell (p := ⟨w.heap.size, 2, none⟩) hbw).trans y2; have hbw5 : w.heap.size < w5.heap.size := Nat.lt_of_lt_of_le hbw hb5.size; have hbl5 := hgrow5.block)) | ((refine step_app rfl (.tmp 52) (.tmp 55) 40 rfl W9.heap.size 74 i0 _ 3 40 Try.underlying40 hi hz0 hz1 hz2 rfl (by decide) (.slice (some ⟨W9.heap.size + 1, 0, none⟩) 0 0) 0 [] ?_ (own_at ?_ ?_) (some ⟨g, 0, none⟩) (p + 1) (p + 1) XQ ?_ HQL.out ?_ HQ1.out ?_ ?_ ?_ ?_; (· (simp [Act.eval])); (· omega); (· (first | exact heap_alloc_new _ _ | exact alloc_snd _ _ _ | exact alloc_fst2 _ _ _)); (· (simp [Act.eval])); (· exact fun hp => HQN.out _ (by repeat (first | exact Below.refl _ _ | apply Below.drew | (refine Below.alloc ?_ (by simp <;> omega) _))) hp); (· (unfold maxLen; omega)); (· omega); (· (simp <;> omega)); intro v5 w5 hown5 hgrow5 hat5; have hb5 : Below W9.heap.size W9 w5 := Below.grown (by repeat (first | exact Below.refl _ _ | apply Below.drew | (refine Below.alloc ?_ (by simp <;> omega) _))) hgrow5 (by simp <;> omega) (fun k hk => Nat.le_trans (show W9.heap.size ≤ W9.heap.size + 1 by omega) (Nat.le_of_eq (Option.some.inj (show some (W9.heap.size + 1) = some k from hk)))); have y50 := (hb5.cell (p := ⟨w.heap.size, 0, none⟩) hbw).trans y0; have y51 := (hb5.cell (p := ⟨w.heap.size, 1, none⟩) hbw).trans y1; have y52 := (hb5.cell (p := ⟨w.heap.size, 2, none⟩) hbw).trans y2; have hbw5 : w.heap.size < w5.heap.size := Nat.lt_of_lt_of_le hbw hb5.size; have hbl5 := hgrow5.block)) | ((refine step_app rfl (.tmp 56) (.tmp 58) 40 rfl W9.heap.size 74 i0 _ 3 40 Try.underlying40 hi hz0 hz1 hz2 rfl (by decide) v5 (0 + (p + 1)) ([] ++ XQ) ?_ (hown5.alloc _) (some ⟨w5.heap.size, 0, none⟩) 1 1 [.string xk, .string xv, .bool xg] ?_ rfl (fun _ => ⟨_, rfl, World.news_of_block (cs := #[.string xk, .string xv, .bool xg]) (t := 74) (fr := (0, 0)) ?_⟩) ?_ ?_ ?_ ?_ ?_; (· (simp [Act.eval])); (· (simp [Act.eval])); (· (exact heap_alloc_new _ _)); (· (simp [Value.oneCell'])); (· (unfold maxLen; omega)); (· omega); (· (have := hb5.size; simp; omega)); intro v6 w6 hown6 hgrow6 hat6; have hb6 : Below W9.heap.size W9 w6 := Below.grown (by first | exact hb5 | exact hb5.alloc hb5.size _) hgrow6 (by have := hb5.size; simp; omega) (fun k hk => (hown5.lt k hk).1))) | ((refine step_app rfl (.tmp 56) (.tmp 58) 40 rfl W9.heap.size 74 i0 _ 3 40 Try.underlying40 hi hz0 hz1 hz2 rfl (by decide) v5 (0 + (p + 1)) ([] ++ XQ) ?_ hown5 (some ⟨W9.heap.size, 0, none⟩) 1 1 [.string xk, .string xv, .bool xg] ?_ rfl (fun _ => ⟨_, rfl, World.news_of_block (cs := #[.string xk, .string xv, .bool xg]) (t := 74) (fr := (0, 0)) ?_⟩) ?_ ?_ ?_ ?_ ?_; (· (simp [Act.eval])); (· (simp [Act.eval])); (· (exact (hbl5 _ (by simp <;> omega) (by simp [Value.ownBlock])).trans (by first | exact alloc_snd _ _ _ | exact alloc_fst2 _ _ _))); (· (simp [Value.oneCell'])); (· (unfold maxLen; omega)); (· omega); (· (have := hb5.size; simp; omega)); intro v6 w6 hown6 hgrow6 hat6; have hb6 : Below W9.heap.size W9 w6 := Below.grown (by first | exact hb5 | exact hb5.alloc hb5.size _) hgrow6 (by have := hb5.size; simp; omega) (fun k hk => (hown5.lt k hk).1))) | ((refine step_app rfl (.tmp 56) (.tmp 58) 40 rfl W9.heap.size 74 i0 _ 3 40 Try.underlying40 hi hz0 hz1 hz2 rfl (by decide) v5 (0 + (p + 1)) ([] ++ XQ) ?_ hown5 (some ⟨W9.heap.size + 1, 0, none⟩) 1 1 [.string xk, .string xv, .bool xg] ?_ rfl (fun _ => ⟨_, rfl, World.news_of_block (cs := #[.string xk, .string xv, .bool xg]) (t := 74) (fr := (0, 0)) ?_⟩) ?_ ?_ ?_ ?_ ?_; (· (simp [Act.eval])); (· (simp [Act.eval])); (· (exact (hbl5 _ (by simp <;> omega) (by simp [Value.ownBlock])).trans (by first | exact alloc_snd _ _ _ | exact alloc_fst2 _ _ _))); (· (simp [Value.oneCell'])); (· (unfold maxLen; omega)); (· omega); (· (have := hb5.size; simp; omega)); intro v6 w6 hown6 hgrow6 hat6; have hb6 : Below W9.heap.size W9 w6 := Below.grown (by first | exact hb5 | exact hb5.alloc hb5.size _) hgrow6 (by have := hb5.size; simp; omega) (fun k hk => (hown5.lt k hk).1))) | ((refine step_app rfl (.tmp 59) (.tmp 60) 40 rfl W9.heap.size 74 i0 _ 3 40 Try.underlying40 hi hz0 hz1 hz2 rfl (by decide) v6 (0 + (p + 1) + 1) _ ?_ hown6 (some ⟨wr.heap.size, 0, none⟩) 0 0 XR ?_ HRL0.out (fun hp => HRN.out _ hb6 hp) HR1.out ?_ ?_ ?_ ?_; (· (simp [Act.eval])); (· (simp [Act.eval])); (· (unfold maxLen; omega)); (· omega); (· (have := hb6.size; omega)); intro v8 w8 hown8 hgrow8 hat8; have hb8 : Below W9.heap.size W9 w8 := Below.grown hb6 hgrow8 hb6.size (fun k hk => (hown6.lt k hk).1))))
              all_goals (
                have e8 : 0 + (p + 1) + 1 + 0 = (p + 1) + 1 := by omega
                rw [e8, List.nil_append] at hown8
                have HF := Lib.hid (PF.out v8 w8 hown8 hb8)
                clear e8 hown8 hgrow8 hat8 hown5 hgrow5 hat5 hown6 hgrow6 hat6 hb5 hb6 hb8 hbl5
                go_wp2
                go_ret
                rw [HL0.out] at HF
                exact HF.out)
            · have hqc2 : (p : Int) + 1 ≤ (c : Int) := by omega
              have hqc3 : p + 1 ≤ c := by omega
              go_wp2_with fail
              go_quiet (fail)
              rename Nat => na
              go_wp2_with fail
              go_quiet (fail)
              rename Nat => nb
              go_wp2_with fail
              obtain ⟨W9, hW9⟩ : ∃ W, W = (World.drewN wr (na + nb)).alloc (Obj.cells #[] 74) := ⟨_, rfl⟩
              rw [← hW9]
              have hb79 : Below wr.heap.size wr W9 := by rw [hW9]; exact (below_drewN (Below.refl wr.heap.size wr) _).alloc (Nat.le_refl _) _
              have hb7 := HBW.out.trans (hb79.mono HBW.out.size)
              have hlr : w.heap.size < wr.heap.size := HLR.out
              have y0 := (hb79.cell (p := ⟨w.heap.size, 0, none⟩) hlr).trans z0
              have y1 := (hb79.cell (p := ⟨w.heap.size, 1, none⟩) hlr).trans z1
              have y2 := (hb79.cell (p := ⟨w.heap.size, 2, none⟩) hlr).trans z2
              have hbw : w.heap.size < W9.heap.size := Nat.lt_of_lt_of_le hlr hb79.size
              have HB7 := Lib.hid hb7
              have PF := Lib.hid (fun v8 w8 h1 h2 => PF0.out W9 HB7.out v8 w8 h1 h2)
              clear hb79 hb7 hW9
              have HQN := Lib.hid (fun W (hW : Below W9.heap.size W9 W) => HQN0.out W (HB7.out.trans (hW.mono HB7.out.size)))
              have HRN := Lib.hid (fun (W : World) (hW : Below W9.heap.size W9 W) (hp : 0 < 0) => (show ∃ ad, (some (⟨wr.heap.size, 0, none⟩ : Addr)) = some ad ∧ ∀ j u, XR[j]? = some u → W.cell? (ad.add j) = some u from absurd hp (by omega)))
              have HRL0 := Lib.hid (show XR.length = 0 * 3 by rw [HRL.out]; omega)
              clear z0 z1 z2
              go_region_law (first | ((refine step_app rfl (.tmp 52) (.tmp 55) 40 rfl W9.heap.size 74 i0 _ 3 40 Try.underlying40 hi hz0 hz1 hz2 rfl (by decide) (.slice (some ⟨W9.heap.size, 0, none⟩) 0 0) 0 [] ?_ (own_at ?_ ?_) (some ⟨g, 0, none⟩) (p + 1) c XQ ?_ HQL.out ?_ HQ1.out ?_ ?_ ?_ ?_; (· (simp [Act.eval])); (· omega); (· (first | exact heap_alloc_new _ _ | exact alloc_snd _ _ _ | exact alloc_fst2 _ _ _)); (· (simp [Act.eval])); (· exact fun hp => HQN.out _ (by repeat (first | exact Below.refl _ _ | apply Below.drew | (refine Below.alloc ?_ (by simp <;> omega) _))) hp); (· (unfold maxLen; omega)); (· omega); (· (simp <;> omega)); intro v5 w5 hown5 hgrow5 hat5; have hb5 : Below W9.heap.size W9 w5 := Below.grown (by repeat (first | exact Below.refl _ _ | apply Below.drew | (refine Below.alloc ?_ (by simp <;> omega) _))) hgrow5 (by simp <;> omega) (fun k hk => Nat.le_trans (show W9.heap.size ≤ W9.heap.size by omega) (Nat.le_of_eq (Option.some.inj (show some (W9.heap.size) = some k from hk)))); have y50 := (hb5.cell (p := ⟨w.heap.size, 0, none⟩) hbw).trans y0; have y51 := (hb5.cell (p := ⟨w.heap.size, 1, none⟩) hbw).trans y1; have y52 := (hb5.cell (p := ⟨w.heap.size, 2, none⟩) hbw).trans y2; have hbw5 : w.heap.size < w5.heap.size := Nat.lt_of_lt_of_le hbw hb5.size; have hbl5 := hgrow5.block)) | ((refine step_app rfl (.tmp 52) (.tmp 55) 40 rfl W9.heap.size 74 i0 _ 3 40 Try.underlying40 hi hz0 hz1 hz2 rfl (by decide) (.slice (some ⟨W9.heap.size + 1, 0, none⟩) 0 0) 0 [] ?_ (own_at ?_ ?_) (some ⟨g, 0, none⟩) (p + 1) c XQ ?_ HQL.out ?_ HQ1.out ?_ ?_ ?_ ?_; (· (simp [Act.eval])); (· omega); (· (first | exact heap_alloc_new _ _ | exact alloc_snd _ _ _ | exact alloc_fst2 _ _ _)); (· (simp [Act.eval])); (· exact fun hp => HQN.out _ (by repeat (first | exact Below.refl _ _ | apply Below.drew | (refine Below.alloc ?_ (by simp <;> omega) _))) hp); (· (unfold maxLen; omega)); (· omega); (· (simp <;> omega)); intro v5 w5 hown5 hgrow5 hat5; have hb5 : Below W9.heap.size W9 w5 := Below.grown (by repeat (first | exact Below.refl _ _ | apply Below.drew | (refine Below.alloc ?_ (by simp <;> omega) _))) hgrow5 (by simp <;> omega) (fun k hk => Nat.le_trans (show W9.heap.size ≤ W9.heap.size + 1 by omega) (Nat.le_of_eq (Option.some.inj (show some (W9.heap.size + 1) = some k from hk)))); have y50 := (hb5.cell (p := ⟨w.heap.size, 0, none⟩) hbw).trans y0; have y51 := (hb5.cell (p := ⟨w.heap.size, 1, none⟩) hbw).trans y1; have y52 := (hb5.cell (p := ⟨w.heap.size, 2, none⟩) hbw).trans y2; have hbw5 : w.heap.size < w5.heap.size := Nat.lt_of_lt_of_le hbw hb5.size; have hbl5 := hgrow5.block)) | ((refine step_app rfl (.tmp 56) (.tmp 58) 40 rfl W9.heap.size 74 i0 _ 3 40 Try.underlying40 hi hz0 hz1 hz2 rfl (by decide) v5 (0 + (p + 1)) ([] ++ XQ) ?_ (hown5.alloc _) (some ⟨w5.heap.size, 0, none⟩) 1 1 [.string xk, .string xv, .bool xg] ?_ rfl (fun _ => ⟨_, rfl, World.news_of_block (cs := #[.string xk, .string xv, .bool xg]) (t := 74) (fr := (0, 0)) ?_⟩) ?_ ?_ ?_ ?_ ?_; (· (simp [Act.eval])); (· (simp [Act.eval])); (· (exact heap_alloc_new _ _)); (· (simp [Value.oneCell'])); (· (unfold maxLen; omega)); (· omega); (· (have := hb5.size; simp; omega)); intro v6 w6 hown6 hgrow6 hat6; have hb6 : Below W9.heap.size W9 w6 := Below.grown (by first | exact hb5 | exact hb5.alloc hb5.size _) hgrow6 (by have := hb5.size; simp; omega) (fun k hk => (hown5.lt k hk).1))) | ((refine step_app rfl (.tmp 56) (.tmp 58) 40 rfl W9.heap.size 74 i0 _ 3 40 Try.underlying40 hi hz0 hz1 hz2 rfl (by decide) v5 (0 + (p + 1)) ([] ++ XQ) ?_ hown5 (some ⟨W9.heap.size, 0, none⟩) 1 1 [.string xk, .string xv, .bool xg] ?_ rfl (fun _ => ⟨_, rfl, World.news_of_block (cs := #[.string xk, .string xv, .bool xg]) (t := 74) (fr := (0, 0)) ?_⟩) ?_ ?_ ?_ ?_ ?_; (· (simp [Act.eval])); (· (simp [Act.eval])); (· (exact (hbl5 _ (by simp <;> omega) (by simp [Value.ownBlock])).trans (by first | exact alloc_snd _ _ _ | exact alloc_fst2 _ _ _))); (· (simp [Value.oneCell'])); (· (unfold maxLen; omega)); (· omega); (· (have := hb5.size; simp; omega)); intro v6 w6 hown6 hgrow6 hat6; have hb6 : Below W9.heap.size W9 w6 := Below.grown (by first | exact hb5 | exact hb5.alloc hb5.size _) hgrow6 (by have := hb5.size; simp; omega) (fun k hk => (hown5.lt k hk).1))) | ((refine step_app rfl (.tmp 56) (.tmp 58) 40 rfl W9.heap.size 74 i0 _ 3 40 Try.underlying40 hi hz0 hz1 hz2 rfl (by decide) v5 (0 + (p + 1)) ([] ++ XQ) ?_ hown5 (some ⟨W9.heap.size + 1, 0, none⟩) 1 1 [.string xk, .string xv, .bool xg] ?_ rfl (fun _ => ⟨_, rfl, World.news_of_block (cs := #[.string xk, .string xv, .bool xg]) (t := 74) (fr := (0, 0)) ?_⟩) ?_ ?_ ?_ ?_ ?_; (· (simp [Act.eval])); (· (simp [Act.eval])); (· (exact (hbl5 _ (by simp <;> omega) (by simp [Value.ownBlock])).trans (by first | exact alloc_snd _ _ _ | exact alloc_fst2 _ _ _))); (· (simp [Value.oneCell'])); (· (unfold maxLen; omega)); (· omega); (· (have := hb5.size; simp; omega)); intro v6 w6 hown6 hgrow6 hat6; have hb6 : Below W9.heap.size W9 w6 := Below.grown (by first | exact hb5 | exact hb5.alloc hb5.size _) hgrow6 (by have := hb5.size; simp; omega) (fun k hk => (hown5.lt k hk).1))) | ((refine step_app rfl (.tmp 59) (.tmp 60) 40 rfl W9.heap.size 74 i0 _ 3 40 Try.underlying40 hi hz0 hz1 hz2 rfl (by decide) v6 (0 + (p + 1) + 1) _ ?_ hown6 (some ⟨wr.heap.size, 0, none⟩) 0 0 XR ?_ HRL0.out (fun hp => HRN.out _ hb6 hp) HR1.out ?_ ?_ ?_ ?_; (· (simp [Act.eval])); (· (simp [Act.eval])); (· (unfold maxLen; omega)); (· omega); (· (have := hb6.size; omega)); intro v8 w8 hown8 hgrow8 hat8; have hb8 : Below W9.heap.size W9 w8 := Below.grown hb6 hgrow8 hb6.size (fun k hk => (hown6.lt k hk).1))))
              all_goals (
                have e8 : 0 + (p + 1) + 1 + 0 = (p + 1) + 1 := by omega
                rw [e8, List.nil_append] at hown8
                have HF := Lib.hid (PF.out v8 w8 hown8 hb8)
                clear e8 hown8 hgrow8 hat8 hown5 hgrow5 hat5 hown6 hgrow6 hat6 hb5 hb6 hb8 hbl5
                go_wp2
                go_ret
                rw [HL0.out] at HF
                exact HF.out)
          · have hqc : ¬ (c = p + 1) := by omega
            have hqn2 : p + 1 < n := by omega
            have hqn3 : p + 1 ≤ n := by omega
            have hqc3 : p + 1 ≤ c := by omega
            have hq0 : (0 : Int) ≤ (p : Int) + 1 := by omega
            have hqn4 : (p : Int) + 1 ≤ (n : Int) := by omega
            have hqc4 : (p : Int) + 1 ≤ (c : Int) := by omega
            obtain ⟨XQ, hXQ⟩ : ∃ XQ, XQ = ((l.take (p + 1)).map wrCs).flatten := ⟨_, rfl⟩
            obtain ⟨XR, hXR⟩ : ∃ XR, XR = ((l.drop (p + 1)).map wrCs).flatten := ⟨_, rfl⟩
            have HQL := Lib.hid (show XQ.length = (p + 1) * 3 by rw [hXQ, flat_len (wrCs_len _), List.length_map, List.length_take, HN.out]; omega)
            have HRL := Lib.hid (show XR.length = (n - (p + 1)) * 3 by rw [hXR, flat_len (wrCs_len _), List.length_map, List.length_drop, HN.out])
            have HQ1 := Lib.hid (show ∀ u ∈ XQ, u.oneCell' = true by rw [hXQ]; exact wrCs_one _)
            have HR1 := Lib.hid (show ∀ u ∈ XR, u.oneCell' = true by rw [hXR]; exact wrCs_one _)
            have HQN0 := Lib.hid (fun W (hW : Below w.heap.size w W) (hp : 0 < (p + 1)) => (show ∃ ad, (some ⟨g, 0, none⟩ : Option Addr) = some ad ∧ ∀ j u, XQ[j]? = some u → W.cell? (ad.add j) = some u by rw [hXQ]; exact ((HB.out.below hW).takeW (p + 1)).news (by rw [List.length_take, HN.out]; omega)))
            have HRN0 := Lib.hid (fun W (hW : Below w.heap.size w W) (hp : 0 < n - (p + 1)) => (show ∃ ad, (some ⟨g, (p + 1) * 3, none⟩ : Option Addr) = some ad ∧ ∀ j u, XR[j]? = some u → W.cell? (ad.add j) = some u by rw [hXR]; exact ((HB.out.below hW).dropW (p + 1) _ (by omega)).news (by rw [List.length_drop, HN.out]; exact hp)))
            have PF0 := Lib.hid (fun (W9 : World) (h9 : Below w.heap.size w W9) (v8 : Value) (w8 : World) (h1 : w8.ownsRow W9.heap.size 74 3 v8 (n + 1) ((XQ ++ [.string xk, .string xv, .bool xg]) ++ XR)) (h2 : Below W9.heap.size W9 w8) => putw_new (l := l) (x := (xk, xv, xg)) (q := p + 1) (n := n) (w := w) (v := v8) HN.out HUP.out (by omega) HLO.out HHI.out h9.size (by rw [← hXQ, ← hXR]; exact h1) (h9.trans (h2.mono h9.size)))
            have HBW := Lib.hid (HAL.out.trans (HBI.out.mono HAL.out.size))
            obtain ⟨L0, hL0⟩ : ∃ L0, L0 = l := ⟨_, rfl⟩
            rw [← hL0] at PF0 ⊢
            have HL0 := Lib.hid hL0
            clear hXQ hXR hL0
            go_wp2_with fail
            go_quiet (fail)
            go_wp2_with fail
            go_quiet (fail)
            go_wp2_with (at_builtin; (refine wpList_app rfl (.tmp 47) (.tmp 50) 40 rfl w.heap.size 74 i0 _ 3 40 Try.underlying40 hi hz0 hz1 hz2 rfl (by decide) _ 0 [] rfl (own_at ?_ (heap_alloc_new _ _)) (some ⟨g, (p + 1) * 3, none⟩) (n - (p + 1)) _ XR rfl HRL.out ?_ HR1.out (by unfold maxLen; omega) (by omega) ?_ ?_; (· (have := HBW.out.size; simp; omega)); (· exact fun hp => HRN0.out _ (((below_drewN HBW.out _)).alloc HBW.out.size _) hp); (· (have := HBW.out.size; simp; omega)); intro v7 w7 hown7 hgrow7 hat7))
            rw [Nat.zero_add, List.nil_append] at hown7
            have hb79 : Below wr.heap.size wr w7 := (((below_drewN (Below.refl wr.heap.size wr) _)).alloc (Nat.le_refl _) _).grown hgrow7 (by simp <;> omega) (fun k hk => Nat.le_of_eq (Option.some.inj (show some wr.heap.size = some k from hk)))
            have hb7 := HBW.out.trans (hb79.mono HBW.out.size)
            have hlr : w.heap.size < wr.heap.size := Nat.lt_of_lt_of_le hsa HBI.out.size
            have y0 := (hb79.cell (p := ⟨w.heap.size, 0, none⟩) hlr).trans z0
            have y1 := (hb79.cell (p := ⟨w.heap.size, 1, none⟩) hlr).trans z1
            have y2 := (hb79.cell (p := ⟨w.heap.size, 2, none⟩) hlr).trans z2
            have hbw : w.heap.size < w7.heap.size := Nat.lt_of_lt_of_le hlr hb79.size
            obtain ⟨A7, c7, rfl, hrn⟩ := row_news hown7
            have HRN := Lib.hid hrn
            have HB7 := Lib.hid hb7
            have HQN := Lib.hid (fun W (hW : Below w7.heap.size w7 W) => HQN0.out W (HB7.out.trans (hW.mono HB7.out.size)))
            have PF := Lib.hid (fun v8 w8 h1 h2 => PF0.out w7 HB7.out v8 w8 h1 h2)
            clear hown7 hgrow7 hat7 hb79 hb7 hrn z0 z1 z2
            go_wp2_with fail
            go_region_law (first | ((refine step_app rfl (.tmp 52) (.tmp 55) 40 rfl w7.heap.size 74 i0 _ 3 40 Try.underlying40 hi hz0 hz1 hz2 rfl (by decide) (.slice (some ⟨w7.heap.size, 0, none⟩) 0 0) 0 [] ?_ (own_at ?_ ?_) (some ⟨g, 0, none⟩) (p + 1) c XQ ?_ HQL.out ?_ HQ1.out ?_ ?_ ?_ ?_; (· (simp [Act.eval])); (· omega); (· (first | exact heap_alloc_new _ _ | exact alloc_snd _ _ _ | exact alloc_fst2 _ _ _)); (· (simp [Act.eval])); (· exact fun hp => HQN.out _ (by repeat (first | exact Below.refl _ _ | apply Below.drew | (refine Below.alloc ?_ (by simp <;> omega) _))) hp); (· (unfold maxLen; omega)); (· omega); (· (simp <;> omega)); intro v5 w5 hown5 hgrow5 hat5; have hb5 : Below w7.heap.size w7 w5 := Below.grown (by repeat (first | exact Below.refl _ _ | apply Below.drew | (refine Below.alloc ?_ (by simp <;> omega) _))) hgrow5 (by simp <;> omega) (fun k hk => Nat.le_trans (show w7.heap.size ≤ w7.heap.size by omega) (Nat.le_of_eq (Option.some.inj (show some (w7.heap.size) = some k from hk)))); have y50 := (hb5.cell (p := ⟨w.heap.size, 0, none⟩) hbw).trans y0; have y51 := (hb5.cell (p := ⟨w.heap.size, 1, none⟩) hbw).trans y1; have y52 := (hb5.cell (p := ⟨w.heap.size, 2, none⟩) hbw).trans y2; have hbw5 : w.heap.size < w5.heap.size := Nat.lt_of_lt_of_le hbw hb5.size; have hbl5 := hgrow5.block)) | ((refine step_app rfl (.tmp 52) (.tmp 55) 40 rfl w7.heap.size 74 i0 _ 3 40 Try.underlying40 hi hz0 hz1 hz2 rfl (by decide) (.slice (some ⟨w7.heap.size + 1, 0, none⟩) 0 0) 0 [] ?_ (own_at ?_ ?_) (some ⟨g, 0, none⟩) (p + 1) c XQ ?_ HQL.out ?_ HQ1.out ?_ ?_ ?_ ?_; (· (simp [Act.eval])); (· omega); (· (first | exact heap_alloc_new _ _ | exact alloc_snd _ _ _ | exact alloc_fst2 _ _ _)); (· (simp [Act.eval])); (· exact fun hp => HQN.out _ (by repeat (first | exact Below.refl _ _ | apply Below.drew | (refine Below.alloc ?_ (by simp <;> omega) _))) hp); (· (unfold maxLen; omega)); (· omega); (· (simp <;> omega)); intro v5 w5 hown5 hgrow5 hat5; have hb5 : Below w7.heap.size w7 w5 := Below.grown (by repeat (first | exact Below.refl _ _ | apply Below.drew | (refine Below.alloc ?_ (by simp <;> omega) _))) hgrow5 (by simp <;> omega) (fun k hk => Nat.le_trans (show w7.heap.size ≤ w7.heap.size + 1 by omega) (Nat.le_of_eq (Option.some.inj (show some (w7.heap.size + 1) = some k from hk)))); have y50 := (hb5.cell (p := ⟨w.heap.size, 0, none⟩) hbw).trans y0; have y51 := (hb5.cell (p := ⟨w.heap.size, 1, none⟩) hbw).trans y1; have y52 := (hb5.cell (p := ⟨w.heap.size, 2, none⟩) hbw).trans y2; have hbw5 : w.heap.size < w5.heap.size := Nat.lt_of_lt_of_le hbw hb5.size; have hbl5 := hgrow5.block)) | ((refine step_app rfl (.tmp 56) (.tmp 58) 40 rfl w7.heap.size 74 i0 _ 3 40 Try.underlying40 hi hz0 hz1 hz2 rfl (by decide) v5 (0 + (p + 1)) ([] ++ XQ) ?_ (hown5.alloc _) (some ⟨w5.heap.size, 0, none⟩) 1 1 [.string xk, .string xv, .bool xg] ?_ rfl (fun _ => ⟨_, rfl, World.news_of_block (cs := #[.string xk, .string xv, .bool xg]) (t := 74) (fr := (0, 0)) ?_⟩) ?_ ?_ ?_ ?_ ?_; (· (simp [Act.eval])); (· (simp [Act.eval])); (· (exact heap_alloc_new _ _)); (· (simp [Value.oneCell'])); (· (unfold maxLen; omega)); (· omega); (· (have := hb5.size; simp; omega)); intro v6 w6 hown6 hgrow6 hat6; have hb6 : Below w7.heap.size w7 w6 := Below.grown (by first | exact hb5 | exact hb5.alloc hb5.size _) hgrow6 (by have := hb5.size; simp; omega) (fun k hk => (hown5.lt k hk).1))) | ((refine step_app rfl (.tmp 56) (.tmp 58) 40 rfl w7.heap.size 74 i0 _ 3 40 Try.underlying40 hi hz0 hz1 hz2 rfl (by decide) v5 (0 + (p + 1)) ([] ++ XQ) ?_ hown5 (some ⟨w7.heap.size, 0, none⟩) 1 1 [.string xk, .string xv, .bool xg] ?_ rfl (fun _ => ⟨_, rfl, World.news_of_block (cs := #[.string xk, .string xv, .bool xg]) (t := 74) (fr := (0, 0)) ?_⟩) ?_ ?_ ?_ ?_ ?_; (· (simp [Act.eval])); (· (simp [Act.eval])); (· (exact (hbl5 _ (by simp <;> omega) (by simp [Value.ownBlock])).trans (by first | exact alloc_snd _ _ _ | exact alloc_fst2 _ _ _))); (· (simp [Value.oneCell'])); (· (unfold maxLen; omega)); (· omega); (· (have := hb5.size; simp; omega)); intro v6 w6 hown6 hgrow6 hat6; have hb6 : Below w7.heap.size w7 w6 := Below.grown (by first | exact hb5 | exact hb5.alloc hb5.size _) hgrow6 (by have := hb5.size; simp; omega) (fun k hk => (hown5.lt k hk).1))) | ((refine step_app rfl (.tmp 56) (.tmp 58) 40 rfl w7.heap.size 74 i0 _ 3 40 Try.underlying40 hi hz0 hz1 hz2 rfl (by decide) v5 (0 + (p + 1)) ([] ++ XQ) ?_ hown5 (some ⟨w7.heap.size + 1, 0, none⟩) 1 1 [.string xk, .string xv, .bool xg] ?_ rfl (fun _ => ⟨_, rfl, World.news_of_block (cs := #[.string xk, .string xv, .bool xg]) (t := 74) (fr := (0, 0)) ?_⟩) ?_ ?_ ?_ ?_ ?_; (· (simp [Act.eval])); (· (simp [Act.eval])); (· (exact (hbl5 _ (by simp <;> omega) (by simp [Value.ownBlock])).trans (by first | exact alloc_snd _ _ _ | exact alloc_fst2 _ _ _))); (· (simp [Value.oneCell'])); (· (unfold maxLen; omega)); (· omega); (· (have := hb5.size; simp; omega)); intro v6 w6 hown6 hgrow6 hat6; have hb6 : Below w7.heap.size w7 w6 := Below.grown (by first | exact hb5 | exact hb5.alloc hb5.size _) hgrow6 (by have := hb5.size; simp; omega) (fun k hk => (hown5.lt k hk).1))) | ((refine step_app rfl (.tmp 59) (.tmp 60) 40 rfl w7.heap.size 74 i0 _ 3 40 Try.underlying40 hi hz0 hz1 hz2 rfl (by decide) v6 (0 + (p + 1) + 1) _ ?_ hown6 A7 (n - (p + 1)) c7 XR ?_ HRL.out (fun hp => HRN.out _ hb6 hp) HR1.out ?_ ?_ ?_ ?_; (· (simp [Act.eval])); (· (simp [Act.eval])); (· (unfold maxLen; omega)); (· omega); (· (have := hb6.size; omega)); intro v8 w8 hown8 hgrow8 hat8; have hb8 : Below w7.heap.size w7 w8 := Below.grown hb6 hgrow8 hb6.size (fun k hk => (hown6.lt k hk).1))))
            all_goals (
              have e8 : 0 + (p + 1) + 1 + (n - (p + 1)) = n + 1 := by omega
              rw [e8, List.nil_append] at hown8
              have HF := Lib.hid (PF.out v8 w8 hown8 hb8)
              clear e8 hown8 hgrow8 hat8 hown5 hgrow5 hat5 hown6 hgrow6 hat6 hb5 hb6 hb8 hbl5
              go_wp2
              go_ret
              rw [HL0.out] at HF
              exact HF.out)
      | true =>
        have hbe : (s1.toList == xk.toList) = true := hk2
        have hse : s1 = xk := kEq_iff.1 hk2
        have HLO0 := Lib.hid (show ∀ j (hj : j < l.length), j < p → kLt l[j].1 xk = true from fun j hj h => by rw [← hse]; exact HLT.out j hj h)
        clear hk2 HLT
        obtain ⟨XR, hXR⟩ : ∃ XR, XR = (l.map wrCs).flatten := ⟨_, rfl⟩
        have HRL := Lib.hid (show XR.length = n * 3 by rw [hXR, flat_len (wrCs_len _), List.length_map, HN.out])
        have HR1 := Lib.hid (show ∀ u ∈ XR, u.oneCell' = true by rw [hXR]; exact wrCs_one _)
        have HRN0 := Lib.hid (fun W (hW : Below w.heap.size w W) (hp : 0 < n) => (show ∃ ad, (some ⟨g, 0, none⟩ : Option Addr) = some ad ∧ ∀ j u, XR[j]? = some u → W.cell? (ad.add j) = some u by rw [hXR]; exact (HB.out.below hW).news (by rw [HN.out]; exact hp)))
        have HXR := Lib.hid hXR
        have HBW := Lib.hid (HAL.out.trans (HBI.out.mono HAL.out.size))
        have HPO := Lib.hid (putW_old (l := l) (x := (xk, xv, xg)) p hpl HLO0.out (by rw [← HY.out]; exact hse))
        clear hXR
        go_wp2_with fail
        go_quiet (fail)
        go_wp2_with fail
        go_quiet (fail)
        go_wp2_with (
          at_builtin
          (refine wpList_app rfl (.tmp 38) (.tmp 39) 40 rfl w.heap.size 74 i0 _ 3 40 Try.underlying40 hi hz0 hz1 hz2 rfl (by decide) _ 0 [] rfl (own_at ?_ (heap_alloc_new _ _)) (some ⟨g, 0, none⟩) (n) _ XR rfl HRL.out ?_ HR1.out (by unfold maxLen; omega) (by omega) ?_ ?_; (· (have := HBW.out.size; simp; omega)); (· exact fun hp => HRN0.out _ (((below_drewN HBW.out _)).alloc HBW.out.size _) hp); (· (have := HBW.out.size; simp; omega)); intro v7 w7 hown7 hgrow7 hat7)
          rw [Nat.zero_add, List.nil_append] at hown7
          have hb79 : Below wr.heap.size wr w7 := (((below_drewN (Below.refl wr.heap.size wr) _)).alloc (Nat.le_refl _) _).grown hgrow7 (by simp <;> omega) (fun k hk => Nat.le_of_eq (Option.some.inj (show some wr.heap.size = some k from hk)))
          have hb7 := HBW.out.trans (hb79.mono HBW.out.size)
          have hlr : w.heap.size < wr.heap.size := Nat.lt_of_lt_of_le hsa HBI.out.size
          have y0 := (hb79.cell (p := ⟨w.heap.size, 0, none⟩) hlr).trans z0
          have y1 := (hb79.cell (p := ⟨w.heap.size, 1, none⟩) hlr).trans z1
          have y2 := (hb79.cell (p := ⟨w.heap.size, 2, none⟩) hlr).trans z2
          rw [HXR.out] at hown7
          obtain ⟨A7, c7, rfl, hl7, ho7⟩ := rows_own hown7
          clear hl7
          obtain ⟨g7, cur7, rfl, hg71, hg72, hh7, hlc7, hcs7⟩ := ho7.form (by rw [List.length_map, HN.out]; omega)
          have hjl : p < (l.map wrCs).length := by rw [List.length_map]; exact hpl
          have d0 := ho7.cellAt p 0 hjl (by omega)
          have d1 := ho7.cellAt p 1 hjl (by omega)
          have d2 := ho7.cellAt p 2 hjl (by omega)
          rw [List.getElem_map, ← HY.out] at d0 d1 d2
          simp only [wrCs, Nat.add_zero, List.getElem?_cons_zero, List.getElem?_cons_succ] at d0 d1 d2
          have f0 := ho7.freeC (p * 3)
          have f1 := ho7.freeC (p * 3 + 1)
          have f2 := ho7.freeC (p * 3 + 2)
          have hp3 := ho7.put3 p hjl (by rw [List.getElem_map]; rfl) (.string xk) (.string xv) (.bool xg)
          have e2 : (l.map wrCs).set p [.string xk, .string xv, .bool xg] = (l.set p (xk, xv, xg)).map wrCs := by rw [List.map_set]; rfl
          rw [e2] at hp3
          have HF := Lib.hid (show PutWPost l (xk, xv, xg) w (.returned (.slice (some ⟨g7, 0, none⟩) l.length c7)) (((w7.setCell ⟨g7, p * 3, none⟩ (.string xk)).setCell ⟨g7, p * 3 + 1, none⟩ (.string xv)).setCell ⟨g7, p * 3 + 2, none⟩ (.bool xg)) from ⟨_, rfl, by
            have := hp3.toRow (wrCs_len _) (by decide)
            rw [List.length_map] at this
            rw [HPO.out]
            rw [List.length_set] at this ⊢
            exact this, ((hb7.setCell (p := ⟨g7, p * 3, none⟩) hg71 _).setCell (p := ⟨g7, p * 3 + 1, none⟩) hg71 _).setCell (p := ⟨g7, p * 3 + 2, none⟩) hg71 _⟩)
          have hne7 : w.heap.size < w7.heap.size := Nat.lt_of_lt_of_le hlr hb79.size
          have hpn0 : (p : Int) < (l.length : Int) := by omega
          clear hp3 ho7 hh7 hlc7 hcs7 e2 hjl hown7 hgrow7 hat7 hb79 hb7 z0 z1 z2 HLO0)
        go_ret
        exact HF.out

set_option maxRecDepth 100000 in
set_option maxHeartbeats 4000000 in
theorem l5PutW_nil (A : Option Addr) (c : Nat) (hA : (A = none ∧ c = 0) ∨ ∃ g, A = some ⟨g, 0, none⟩) (xk xv : ByteArray) (xg : Bool) (w : World) :
    Calls Try.prog 64 #[.slice A 0 c, .agg #[.string xk, .string xv, .bool xg]] w (PutWPost [] (xk, xv, xg) w) := by
  obtain ⟨i0, hi, hz0, hz1, hz2⟩ := info_parts infoWrite
  have hal := below1 w (.cells #[.string xk, .string xv, .bool xg] 74)
  have hbx := heap_alloc_new w (.cells #[.string xk, .string xv, .bool xg] 74)
  obtain ⟨wa, hwa⟩ : ∃ wa, wa = w.alloc (.cells #[.string xk, .string xv, .bool xg] 74) := ⟨_, rfl⟩
  rw [← hwa] at hal hbx
  have hsa : w.heap.size < wa.heap.size := by rw [hwa]; simp
  have HWA := Lib.hid hwa
  have HAL := Lib.hid hal
  have HBX := Lib.hid hbx
  clear hwa hal hbx
  have HLR := Lib.hid hsa
  have z0 : wa.cell? ⟨w.heap.size, 0, none⟩ = some (.string xk) := cell_blk (i := 0) HBX.out rfl
  have z1 : wa.cell? ⟨w.heap.size, 1, none⟩ = some (.string xv) := cell_blk (i := 1) HBX.out rfl
  have z2 : wa.cell? ⟨w.heap.size, 2, none⟩ = some (.bool xg) := cell_blk (i := 2) HBX.out rfl
  obtain ⟨XR, hXR⟩ : ∃ XR : List Value, XR = [] := ⟨_, rfl⟩
  have HRL := Lib.hid (show XR.length = 0 * 3 by rw [hXR]; rfl)
  have HR1 := Lib.hid (show ∀ u ∈ XR, u.oneCell' = true by rw [hXR]; simp)
  have PF0 := Lib.hid (fun (W9 : World) (h9 : Below w.heap.size w W9) (v8 : Value) (w8 : World) (h1 : w8.ownsRow W9.heap.size 74 3 v8 (0 + 1 + 0) (([] ++ [.string xk, .string xv, .bool xg]) ++ XR)) (h2 : Below W9.heap.size W9 w8) => putw_new (l := []) (x := (xk, xv, xg)) (q := 0) (n := 0) (w := w) (v := v8) rfl rfl (Nat.le_refl _) (fun j hj h => absurd h (by omega)) (fun j hj h => absurd hj (by simp)) h9.size (by rw [hXR] at h1; exact h1) (h9.trans (h2.mono h9.size)))
  obtain ⟨L0, hL0⟩ : ∃ L0 : List (ByteArray × ByteArray × Bool), L0 = [] := ⟨_, rfl⟩
  rw [← hL0] at PF0 ⊢
  have HL0 := Lib.hid hL0
  clear hXR hL0
  rcases hA with ⟨rfl, rfl⟩ | ⟨g, rfl⟩
  · go_enter Try.func64, Try.ntmps64
    go_wp2
    rw [← HWA.out]
    go_loop [5] (fun i => i = .int .i64 0) (fun i => (intOf i).toNat)
    case atStart => rfl
    case round =>
      subst hrel
      go_wp2_with fail
      go_quiet (fail)
      rename Nat => na
      go_wp2_with fail
      go_quiet (fail)
      rename Nat => nb
      go_wp2_with fail
      obtain ⟨W9, hW9⟩ : ∃ W, W = (World.drewN wa (na + nb)).alloc (Obj.cells #[] 74) := ⟨_, rfl⟩
      rw [← hW9]
      have hb79 : Below wa.heap.size wa W9 := by rw [hW9]; exact (below_drewN (Below.refl wa.heap.size wa) _).alloc (Nat.le_refl _) _
      have hb7 := HAL.out.trans (hb79.mono HAL.out.size)
      have hlr : w.heap.size < wa.heap.size := HLR.out
      have y0 := (hb79.cell (p := ⟨w.heap.size, 0, none⟩) hlr).trans z0
      have y1 := (hb79.cell (p := ⟨w.heap.size, 1, none⟩) hlr).trans z1
      have y2 := (hb79.cell (p := ⟨w.heap.size, 2, none⟩) hlr).trans z2
      have hbw : w.heap.size < W9.heap.size := Nat.lt_of_lt_of_le hlr hb79.size
      have HB7 := Lib.hid hb7
      have PF := Lib.hid (fun v8 w8 h1 h2 => PF0.out W9 HB7.out v8 w8 h1 h2)
      clear hb79 hb7 hW9
      have HRN := Lib.hid (fun (W : World) (hW : Below W9.heap.size W9 W) (hp : 0 < 0) => (show ∃ ad, (some (⟨wa.heap.size, 0, none⟩ : Addr)) = some ad ∧ ∀ j u, XR[j]? = some u → W.cell? (ad.add j) = some u from absurd hp (by omega)))
      clear z0 z1 z2
      go_region_law (first | ((refine step_app rfl (.tmp 56) (.tmp 58) 40 rfl W9.heap.size 74 i0 _ 3 40 Try.underlying40 hi hz0 hz1 hz2 rfl (by decide) (.slice (some ⟨W9.heap.size, 0, none⟩) 0 0) 0 [] ?_ (own_at ?_ ?_) (some ⟨W9.heap.size + 1, 0, none⟩) 1 1 [.string xk, .string xv, .bool xg] ?_ rfl (fun _ => ⟨_, rfl, World.news_of_block (cs := #[.string xk, .string xv, .bool xg]) (t := 74) (fr := (0, 0)) ?_⟩) ?_ ?_ ?_ ?_ ?_; (· (simp [Act.eval])); (· omega); (· (first | exact heap_alloc_new _ _ | exact alloc_snd _ _ _ | exact alloc_fst2 _ _ _)); (· (simp [Act.eval])); (· (first | exact heap_alloc_new _ _ | exact alloc_snd _ _ _ | exact alloc_fst2 _ _ _)); (· (simp [Value.oneCell'])); (· (unfold maxLen; omega)); (· omega); (· (simp <;> omega)); intro v6 w6 hown6 hgrow6 hat6; have hb6 : Below W9.heap.size W9 w6 := Below.grown (by repeat (first | exact Below.refl _ _ | apply Below.drew | (refine Below.alloc ?_ (by simp <;> omega) _))) hgrow6 (by simp <;> omega) (fun k hk => Nat.le_trans (show W9.heap.size ≤ W9.heap.size by omega) (Nat.le_of_eq (Option.some.inj (show some (W9.heap.size) = some k from hk)))))) | ((refine step_app rfl (.tmp 56) (.tmp 58) 40 rfl W9.heap.size 74 i0 _ 3 40 Try.underlying40 hi hz0 hz1 hz2 rfl (by decide) (.slice (some ⟨W9.heap.size + 1, 0, none⟩) 0 0) 0 [] ?_ (own_at ?_ ?_) (some ⟨W9.heap.size, 0, none⟩) 1 1 [.string xk, .string xv, .bool xg] ?_ rfl (fun _ => ⟨_, rfl, World.news_of_block (cs := #[.string xk, .string xv, .bool xg]) (t := 74) (fr := (0, 0)) ?_⟩) ?_ ?_ ?_ ?_ ?_; (· (simp [Act.eval])); (· omega); (· (first | exact heap_alloc_new _ _ | exact alloc_snd _ _ _ | exact alloc_fst2 _ _ _)); (· (simp [Act.eval])); (· (first | exact heap_alloc_new _ _ | exact alloc_snd _ _ _ | exact alloc_fst2 _ _ _)); (· (simp [Value.oneCell'])); (· (unfold maxLen; omega)); (· omega); (· (simp <;> omega)); intro v6 w6 hown6 hgrow6 hat6; have hb6 : Below W9.heap.size W9 w6 := Below.grown (by repeat (first | exact Below.refl _ _ | apply Below.drew | (refine Below.alloc ?_ (by simp <;> omega) _))) hgrow6 (by simp <;> omega) (fun k hk => Nat.le_trans (show W9.heap.size ≤ W9.heap.size + 1 by omega) (Nat.le_of_eq (Option.some.inj (show some (W9.heap.size + 1) = some k from hk)))))) | ((refine step_app rfl (.tmp 59) (.tmp 60) 40 rfl W9.heap.size 74 i0 _ 3 40 Try.underlying40 hi hz0 hz1 hz2 rfl (by decide) v6 (0 + 1) _ ?_ hown6 (some ⟨wa.heap.size, 0, none⟩) 0 0 XR ?_ HRL.out (fun hp => HRN.out _ hb6 hp) HR1.out ?_ ?_ ?_ ?_; (· (simp [Act.eval])); (· (simp [Act.eval])); (· (unfold maxLen; omega)); (· omega); (· (have := hb6.size; omega)); intro v8 w8 hown8 hgrow8 hat8; have hb8 : Below W9.heap.size W9 w8 := Below.grown hb6 hgrow8 hb6.size (fun k hk => (hown6.lt k hk).1))))
      all_goals (
        have HF := Lib.hid (PF.out v8 w8 hown8 hb8)
        clear hown8 hgrow8 hat8 hown6 hgrow6 hat6 hb6 hb8
        go_wp2
        go_ret
        exact HF.out)
  · by_cases hc0 : c = 0
    · subst hc0
      go_enter Try.func64, Try.ntmps64
      go_wp2
      rw [← HWA.out]
      go_loop [5] (fun i => i = .int .i64 0) (fun i => (intOf i).toNat)
      case atStart => rfl
      case round =>
        subst hrel
        go_wp2_with fail
        go_quiet (fail)
        rename Nat => na
        go_wp2_with fail
        go_quiet (fail)
        rename Nat => nb
        go_wp2_with fail
        obtain ⟨W9, hW9⟩ : ∃ W, W = (World.drewN wa (na + nb)).alloc (Obj.cells #[] 74) := ⟨_, rfl⟩
        rw [← hW9]
        have hb79 : Below wa.heap.size wa W9 := by rw [hW9]; exact (below_drewN (Below.refl wa.heap.size wa) _).alloc (Nat.le_refl _) _
        have hb7 := HAL.out.trans (hb79.mono HAL.out.size)
        have hlr : w.heap.size < wa.heap.size := HLR.out
        have y0 := (hb79.cell (p := ⟨w.heap.size, 0, none⟩) hlr).trans z0
        have y1 := (hb79.cell (p := ⟨w.heap.size, 1, none⟩) hlr).trans z1
        have y2 := (hb79.cell (p := ⟨w.heap.size, 2, none⟩) hlr).trans z2
        have hbw : w.heap.size < W9.heap.size := Nat.lt_of_lt_of_le hlr hb79.size
        have HB7 := Lib.hid hb7
        have PF := Lib.hid (fun v8 w8 h1 h2 => PF0.out W9 HB7.out v8 w8 h1 h2)
        clear hb79 hb7 hW9
        have HRN := Lib.hid (fun (W : World) (hW : Below W9.heap.size W9 W) (hp : 0 < 0) => (show ∃ ad, (some (⟨wa.heap.size, 0, none⟩ : Addr)) = some ad ∧ ∀ j u, XR[j]? = some u → W.cell? (ad.add j) = some u from absurd hp (by omega)))
        clear z0 z1 z2
        go_region_law (first | ((refine step_app rfl (.tmp 56) (.tmp 58) 40 rfl W9.heap.size 74 i0 _ 3 40 Try.underlying40 hi hz0 hz1 hz2 rfl (by decide) (.slice (some ⟨W9.heap.size, 0, none⟩) 0 0) 0 [] ?_ (own_at ?_ ?_) (some ⟨W9.heap.size + 1, 0, none⟩) 1 1 [.string xk, .string xv, .bool xg] ?_ rfl (fun _ => ⟨_, rfl, World.news_of_block (cs := #[.string xk, .string xv, .bool xg]) (t := 74) (fr := (0, 0)) ?_⟩) ?_ ?_ ?_ ?_ ?_; (· (simp [Act.eval])); (· omega); (· (first | exact heap_alloc_new _ _ | exact alloc_snd _ _ _ | exact alloc_fst2 _ _ _)); (· (simp [Act.eval])); (· (first | exact heap_alloc_new _ _ | exact alloc_snd _ _ _ | exact alloc_fst2 _ _ _)); (· (simp [Value.oneCell'])); (· (unfold maxLen; omega)); (· omega); (· (simp <;> omega)); intro v6 w6 hown6 hgrow6 hat6; have hb6 : Below W9.heap.size W9 w6 := Below.grown (by repeat (first | exact Below.refl _ _ | apply Below.drew | (refine Below.alloc ?_ (by simp <;> omega) _))) hgrow6 (by simp <;> omega) (fun k hk => Nat.le_trans (show W9.heap.size ≤ W9.heap.size by omega) (Nat.le_of_eq (Option.some.inj (show some (W9.heap.size) = some k from hk)))))) | ((refine step_app rfl (.tmp 56) (.tmp 58) 40 rfl W9.heap.size 74 i0 _ 3 40 Try.underlying40 hi hz0 hz1 hz2 rfl (by decide) (.slice (some ⟨W9.heap.size + 1, 0, none⟩) 0 0) 0 [] ?_ (own_at ?_ ?_) (some ⟨W9.heap.size, 0, none⟩) 1 1 [.string xk, .string xv, .bool xg] ?_ rfl (fun _ => ⟨_, rfl, World.news_of_block (cs := #[.string xk, .string xv, .bool xg]) (t := 74) (fr := (0, 0)) ?_⟩) ?_ ?_ ?_ ?_ ?_; (· (simp [Act.eval])); (· omega); (· (first | exact heap_alloc_new _ _ | exact alloc_snd _ _ _ | exact alloc_fst2 _ _ _)); (· (simp [Act.eval])); (· (first | exact heap_alloc_new _ _ | exact alloc_snd _ _ _ | exact alloc_fst2 _ _ _)); (· (simp [Value.oneCell'])); (· (unfold maxLen; omega)); (· omega); (· (simp <;> omega)); intro v6 w6 hown6 hgrow6 hat6; have hb6 : Below W9.heap.size W9 w6 := Below.grown (by repeat (first | exact Below.refl _ _ | apply Below.drew | (refine Below.alloc ?_ (by simp <;> omega) _))) hgrow6 (by simp <;> omega) (fun k hk => Nat.le_trans (show W9.heap.size ≤ W9.heap.size + 1 by omega) (Nat.le_of_eq (Option.some.inj (show some (W9.heap.size + 1) = some k from hk)))))) | ((refine step_app rfl (.tmp 59) (.tmp 60) 40 rfl W9.heap.size 74 i0 _ 3 40 Try.underlying40 hi hz0 hz1 hz2 rfl (by decide) v6 (0 + 1) _ ?_ hown6 (some ⟨wa.heap.size, 0, none⟩) 0 0 XR ?_ HRL.out (fun hp => HRN.out _ hb6 hp) HR1.out ?_ ?_ ?_ ?_; (· (simp [Act.eval])); (· (simp [Act.eval])); (· (unfold maxLen; omega)); (· omega); (· (have := hb6.size; omega)); intro v8 w8 hown8 hgrow8 hat8; have hb8 : Below W9.heap.size W9 w8 := Below.grown hb6 hgrow8 hb6.size (fun k hk => (hown6.lt k hk).1))))
        all_goals (
          have HF := Lib.hid (PF.out v8 w8 hown8 hb8)
          clear hown8 hgrow8 hat8 hown6 hgrow6 hat6 hb6 hb8
          go_wp2
          go_ret
          exact HF.out)
    · go_enter Try.func64, Try.ntmps64
      go_wp2
      rw [← HWA.out]
      go_loop [5] (fun i => i = .int .i64 0) (fun i => (intOf i).toNat)
      case atStart => rfl
      case round =>
        subst hrel
        go_wp2_with fail
        go_quiet (fail)
        rename Nat => na
        go_wp2_with fail
        go_quiet (fail)
        rename Nat => nb
        go_wp2_with fail
        obtain ⟨W9, hW9⟩ : ∃ W, W = (World.drewN wa (na + nb)).alloc (Obj.cells #[] 74) := ⟨_, rfl⟩
        rw [← hW9]
        have hb79 : Below wa.heap.size wa W9 := by rw [hW9]; exact (below_drewN (Below.refl wa.heap.size wa) _).alloc (Nat.le_refl _) _
        have hb7 := HAL.out.trans (hb79.mono HAL.out.size)
        have hlr : w.heap.size < wa.heap.size := HLR.out
        have y0 := (hb79.cell (p := ⟨w.heap.size, 0, none⟩) hlr).trans z0
        have y1 := (hb79.cell (p := ⟨w.heap.size, 1, none⟩) hlr).trans z1
        have y2 := (hb79.cell (p := ⟨w.heap.size, 2, none⟩) hlr).trans z2
        have hbw : w.heap.size < W9.heap.size := Nat.lt_of_lt_of_le hlr hb79.size
        have HB7 := Lib.hid hb7
        have PF := Lib.hid (fun v8 w8 h1 h2 => PF0.out W9 HB7.out v8 w8 h1 h2)
        clear hb79 hb7 hW9
        have HRN := Lib.hid (fun (W : World) (hW : Below W9.heap.size W9 W) (hp : 0 < 0) => (show ∃ ad, (some (⟨wa.heap.size, 0, none⟩ : Addr)) = some ad ∧ ∀ j u, XR[j]? = some u → W.cell? (ad.add j) = some u from absurd hp (by omega)))
        clear z0 z1 z2
        go_region_law (first | ((refine step_app rfl (.tmp 56) (.tmp 58) 40 rfl W9.heap.size 74 i0 _ 3 40 Try.underlying40 hi hz0 hz1 hz2 rfl (by decide) (.slice (some ⟨W9.heap.size, 0, none⟩) 0 0) 0 [] ?_ (own_at ?_ ?_) (some ⟨W9.heap.size + 1, 0, none⟩) 1 1 [.string xk, .string xv, .bool xg] ?_ rfl (fun _ => ⟨_, rfl, World.news_of_block (cs := #[.string xk, .string xv, .bool xg]) (t := 74) (fr := (0, 0)) ?_⟩) ?_ ?_ ?_ ?_ ?_; (· (simp [Act.eval])); (· omega); (· (first | exact heap_alloc_new _ _ | exact alloc_snd _ _ _ | exact alloc_fst2 _ _ _)); (· (simp [Act.eval])); (· (first | exact heap_alloc_new _ _ | exact alloc_snd _ _ _ | exact alloc_fst2 _ _ _)); (· (simp [Value.oneCell'])); (· (unfold maxLen; omega)); (· omega); (· (simp <;> omega)); intro v6 w6 hown6 hgrow6 hat6; have hb6 : Below W9.heap.size W9 w6 := Below.grown (by repeat (first | exact Below.refl _ _ | apply Below.drew | (refine Below.alloc ?_ (by simp <;> omega) _))) hgrow6 (by simp <;> omega) (fun k hk => Nat.le_trans (show W9.heap.size ≤ W9.heap.size by omega) (Nat.le_of_eq (Option.some.inj (show some (W9.heap.size) = some k from hk)))))) | ((refine step_app rfl (.tmp 56) (.tmp 58) 40 rfl W9.heap.size 74 i0 _ 3 40 Try.underlying40 hi hz0 hz1 hz2 rfl (by decide) (.slice (some ⟨W9.heap.size + 1, 0, none⟩) 0 0) 0 [] ?_ (own_at ?_ ?_) (some ⟨W9.heap.size, 0, none⟩) 1 1 [.string xk, .string xv, .bool xg] ?_ rfl (fun _ => ⟨_, rfl, World.news_of_block (cs := #[.string xk, .string xv, .bool xg]) (t := 74) (fr := (0, 0)) ?_⟩) ?_ ?_ ?_ ?_ ?_; (· (simp [Act.eval])); (· omega); (· (first | exact heap_alloc_new _ _ | exact alloc_snd _ _ _ | exact alloc_fst2 _ _ _)); (· (simp [Act.eval])); (· (first | exact heap_alloc_new _ _ | exact alloc_snd _ _ _ | exact alloc_fst2 _ _ _)); (· (simp [Value.oneCell'])); (· (unfold maxLen; omega)); (· omega); (· (simp <;> omega)); intro v6 w6 hown6 hgrow6 hat6; have hb6 : Below W9.heap.size W9 w6 := Below.grown (by repeat (first | exact Below.refl _ _ | apply Below.drew | (refine Below.alloc ?_ (by simp <;> omega) _))) hgrow6 (by simp <;> omega) (fun k hk => Nat.le_trans (show W9.heap.size ≤ W9.heap.size + 1 by omega) (Nat.le_of_eq (Option.some.inj (show some (W9.heap.size + 1) = some k from hk)))))) | ((refine step_app rfl (.tmp 59) (.tmp 60) 40 rfl W9.heap.size 74 i0 _ 3 40 Try.underlying40 hi hz0 hz1 hz2 rfl (by decide) v6 (0 + 1) _ ?_ hown6 (some ⟨wa.heap.size, 0, none⟩) 0 0 XR ?_ HRL.out (fun hp => HRN.out _ hb6 hp) HR1.out ?_ ?_ ?_ ?_; (· (simp [Act.eval])); (· (simp [Act.eval])); (· (unfold maxLen; omega)); (· omega); (· (have := hb6.size; omega)); intro v8 w8 hown8 hgrow8 hat8; have hb8 : Below W9.heap.size W9 w8 := Below.grown hb6 hgrow8 hb6.size (fun k hk => (hown6.lt k hk).1))))
        all_goals (
          have HF := Lib.hid (PF.out v8 w8 hown8 hb8)
          clear hown8 hgrow8 hat8 hown6 hgrow6 hat6 hb6 hb8
          go_wp2
          go_ret
          exact HF.out)

/-- Over a row of the call's own, wherever it lies. -/
theorem l5PutW_any (A : Option Addr) (n c : Nat) (l : List (ByteArray × ByteArray × Bool)) (xk xv : ByteArray) (xg : Bool) (lo : Nat) (w : World) (hn : l.length = n) (h : w.ownsRow lo 74 3 (.slice A n c) n (l.map wrCs).flatten) (hlo : lo ≤ w.heap.size) (hl : n ≤ 100000) (hup : upB wLt l = true) :
    Calls Try.prog 64 #[.slice A n c, .agg #[.string xk, .string xv, .bool xg]] w (PutWPost l (xk, xv, xg) w) := by
  rcases Nat.eq_zero_or_pos n with h0 | h0
  · subst h0
    obtain rfl : l = [] := List.eq_nil_of_length_eq_zero hn
    refine l5PutW_nil A c ?_ xk xv xg w
    rcases h.2 with ⟨h2, _⟩ | ⟨g, cap, cur, h2, _⟩
    · injection h2 with h3 _ h5; exact .inl ⟨h3, h5⟩
    · injection h2 with h3 _ _; exact .inr ⟨g, h3⟩
  · rcases h.2 with ⟨_, h3⟩ | ⟨g, cap, cur, h2, _⟩
    · omega
    · injection h2 with h3 _ _
      subst h3
      exact l5PutW_some g n c l xk xv xg lo w hn h hlo hl h0 hup
end Go.Proofs.Ytohkpcgekoipbaa
