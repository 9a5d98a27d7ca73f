/-
  Contracts for SureLog, of the program and of the model.
-/
import Derived.Test.YtnmhigbnlpcedaaGrOwn
import Derived.Test.YtnmhigbnlpcedaaGrOwnM
import Derived.Test.YtnmhigbnlpcedaaGrGoodR
import Derived.Test.YtnmhigbnlpcedaaGrGoodM
import Derived.Deep.RegionHeld3
import Derived.Deep.Cut
namespace Go.Proofs.Ytnmhigbnlpcedaa.Gr
open Go.RowKit CM
set_option linter.unusedVariables false
set_option linter.unusedSimpArgs false

/-- A slice that may be cut within its capacity. -/
def CapOK (r : RH) : Prop := (r.es.length = 0 ∧ r.A = none ∧ r.c = 0) ∨ ∃ g, r.A = some ⟨g, 0, none⟩ ∧ r.es.length ≤ r.c ∧ r.c ≤ maxLen
theorem cap_of {w : World} {r : RH} (h : KR.ow w r) : CapOK r := by
  rcases h.2.1 with ⟨h1, h2, h3⟩ | ⟨g, cur, h1, _, _, _, h5, h6, _⟩
  · exact .inl ⟨by simpa using congrArg List.length h1, h2, h3⟩
  · exact .inr ⟨g, h1, by simpa using h5, h6⟩
def sureA (tm ld : Int) (rs : List RD) : List ED × Bool :=
  if grpB tm ld rs = true ∧ ld ≠ -1 then (match rs[ld.toNat]? with | some r => r.log.take r.su.toNat | none => [], true) else ([], false)
def LAPost (a : List ED × Bool) (w : World) (e : Ending) (w' : World) : Prop :=
  ∃ A c gs, e = .returned (.tuple #[.slice A a.1.length c, .bool a.2]) ∧ gs.map EH.d = a.1 ∧ OwnK KE w' w.heap.size w'.heap.size A c gs ∧ Below w.heap.size w w'
theorem LAPost_un (l : List ED) (ok : Bool) (w : World) : LAPost (l, ok) w = fun e w' => ∃ A c gs, e = .returned (.tuple #[.slice A l.length c, .bool ok]) ∧ gs.map EH.d = l ∧ OwnK KE w' w.heap.size w'.heap.size A c gs ∧ Below w.heap.size w w' := rfl
theorem sureA_no {tm ld : Int} {rs : List RD} (h : grpB tm ld rs = false ∨ ld = -1) : sureA tm ld rs = ([], false) := by
  unfold sureA
  rw [if_neg]
  rintro ⟨h1, h2⟩
  rcases h with h | h
  · rw [h] at h1; cases h1
  · exact h2 h
/-- A valid group's leader. -/
theorem lead_of {tm ld : Int} {rs : List RD} (h : grpB tm ld rs = true) (h1 : ld ≠ -1) : ∃ q : Nat, ld = (q : Int) ∧ q < rs.length := by
  unfold grpB leadB isUpB hasB at h
  simp only [Bool.and_eq_true, Bool.or_eq_true, decide_eq_true_eq] at h
  rcases h.2.2.2.1 with h2 | h2
  · exact absurd h2 h1
  · exact ⟨ld.toNat, by omega, by omega⟩
theorem sure_of {tm ld : Int} {rs : List RD} (h : grpB tm ld rs = true) (q : Nat) (hq : q < rs.length) : 0 ≤ rs[q].su ∧ rs[q].su ≤ (rs[q].log.length : Int) := by
  unfold grpB at h
  simp only [Bool.and_eq_true] at h
  have := repsB_mem h.2.2.2.2 _ (List.getElem_mem hq)
  unfold repB at this
  simp only [Bool.and_eq_true, decide_eq_true_eq] at this
  exact this.2
theorem sureA_yes {tm : Int} {rs : List RD} {q : Nat} (h : grpB tm (q : Int) rs = true) (hq : q < rs.length) : sureA tm (q : Int) rs = (rs[q].log.take rs[q].su.toNat, true) := by
  unfold sureA
  rw [if_pos ⟨h, by omega⟩, Int.toNat_natCast, List.getElem?_eq_getElem hq]

set_option maxHeartbeats 1000000 in
theorem sureOf_any (up : Bool) (Al : Option Addr) (nl cl k : Nat) (w : World) (hA : (nl = 0 ∧ Al = none ∧ cl = 0) ∨ ∃ g, Al = some ⟨g, 0, none⟩ ∧ nl ≤ cl ∧ cl ≤ maxLen) (hk : k ≤ nl) :
    Calls Try.prog 86 #[.agg #[.bool up, .slice Al nl cl, .int .i64 (k : Int)]] w fun e w' => e = .returned (.slice Al k cl) ∧ Below w.heap.size w w' := by
  have hb1 := below1 w (.cells #[.bool up, .slice Al nl cl, .int .i64 (k : Int)] 59)
  rcases hA with ⟨rfl, rfl, rfl⟩ | ⟨g, rfl, h1, h2⟩
  · obtain rfl : k = 0 := by omega
    clear hk
    go_enter Try.func86, Try.ntmps86
    go_wp2
    go_ret
    exact ⟨rfl, hb1⟩
  · have h0 : (0 : Int) ≤ (k : Int) := by omega
    have h3 : (k : Int) ≤ (cl : Int) := by omega
    unfold maxLen at h2
    go_enter Try.func86, Try.ntmps86
    go_wp2
    go_ret
    exact ⟨rfl, hb1⟩

set_option maxRecDepth 100000 in
set_option maxHeartbeats 4000000 in
theorem implSureLog_any (A : Option Addr) (n c : Nat) (tm ld : Int) (hs : List RH) (B : Nat) (w : World) (hn : hs.length = n) (h : RowsB KR w B A hs) (hB : B ≤ w.heap.size) (hm : RpSmall (hs.map rdat)) (hcap : ∀ r ∈ hs, CapOK r) :
    Calls Try.prog 39 #[.agg #[.slice A n c, .int .i64 tm, .int .i64 ld]] w (LAPost (sureA tm ld (hs.map rdat)) w) := by
  have hb0 := below1 w (.cells #[.slice A n c, .int .i64 tm, .int .i64 ld] 24)
  have hk0 := heap_alloc_new w (.cells #[.slice A n c, .int .i64 tm, .int .i64 ld] 24)
  have HGG := Lib.hid (implGoodGroup_any A n c tm ld hs B _ hn (h.below (hb0.mono hB)) (Nat.le_trans hB hb0.size) hm)
  have HB0 := Lib.hid hb0
  have HK0 := Lib.hid hk0
  have hwl : w.heap.size < (w.alloc (.cells #[.slice A n c, .int .i64 tm, .int .i64 ld] 24)).heap.size := by simp
  clear hb0 hk0
  have HH := Lib.hid (fun W => hasLeader_any A n c tm ld W)
  cases hg : grpB tm ld (hs.map rdat) with
  | false =>
    rw [hg] at HGG
    rw [sureA_no (.inl hg), LAPost_un]
    clear hg
    go_enter Try.func39, Try.ntmps39
    go_wp2_with fail
    (with_reducible refine HGG.out.mono ?_)
    rintro e w1 ⟨rfl, ha1⟩
    have HB1 := Lib.hid (HB0.out.trans (ha1.mono HB0.out.size))
    have hk1 := (ha1.block w.heap.size hwl).trans HK0.out
    have y0 := cell_of_row _ _ 0 _ 24 (0, 0) hk1
    have y1 := cell_of_row _ _ 1 _ 24 (0, 0) hk1
    have y2 := cell_of_row _ _ 2 _ 24 (0, 0) hk1
    have yl := lt_blk hk1
    have HK1 := Lib.hid hk1
    clear ha1 hk1
    go_wp2
    exact bodyPost_ret (v := .tuple #[.slice none 0 0, .bool false]) (by simp [results, Try.results39, go_sem]) rfl ⟨none, 0, [], rfl, rfl, OwnK.nil, HB1.out⟩
  | true =>
    rw [hg] at HGG
    by_cases hl : ld = -1
    · rw [sureA_no (.inr hl), LAPost_un]
      have e1 : (ld != -1) = false := by rw [hl]; rfl
      rw [e1] at HH
      clear hg hl
      go_enter Try.func39, Try.ntmps39
      go_wp2_with fail
      (with_reducible refine HGG.out.mono ?_)
      rintro e w1 ⟨rfl, ha1⟩
      have HB1 := Lib.hid (HB0.out.trans (ha1.mono HB0.out.size))
      have hk1 := (ha1.block w.heap.size hwl).trans HK0.out
      have y0 := cell_of_row _ _ 0 _ 24 (0, 0) hk1
      have y1 := cell_of_row _ _ 1 _ 24 (0, 0) hk1
      have y2 := cell_of_row _ _ 2 _ 24 (0, 0) hk1
      have yl := lt_blk hk1
      have HK1 := Lib.hid hk1
      clear ha1 hk1
      go_wp2_with fail
      (with_reducible refine (HH.out _).mono ?_)
      rintro e w2 ⟨rfl, ha2⟩
      have HB2 := Lib.hid (HB1.out.trans (ha2.mono HB1.out.size))
      clear ha2
      go_wp2
      exact bodyPost_ret (v := .tuple #[.slice none 0 0, .bool false]) (by simp [results, Try.results39, go_sem]) rfl ⟨none, 0, [], rfl, rfl, OwnK.nil, HB2.out⟩
    · obtain ⟨q, hq, hqn⟩ := lead_of hg hl
      subst hq
      have e1 : ((q : Int) != -1) = true := by simp <;> omega
      rw [e1] at HH
      have hsu := sure_of hg q hqn
      rw [sureA_yes hg hqn, LAPost_un, r_at (show q < hs.length by simpa using hqn)]
      rw [r_at (show q < hs.length by simpa using hqn)] at hsu
      have hqh : q < hs.length := by simpa using hqn
      obtain ⟨b, off, rfl, hbB, hc⟩ := rp_get h (by omega)
      obtain ⟨hc0, hc1, hc2⟩ := hc q hqh
      have hrd := h.at q hqh
      have hcp := hcap _ (List.getElem_mem hqh)
      have hsm := hm.2 (rdat (hs[q]'hqh)) (List.mem_map.2 ⟨_, List.getElem_mem hqh, rfl⟩)
      obtain ⟨y, hy⟩ : ∃ y, y = hs[q]'hqh := ⟨_, rfl⟩
      rw [← hy] at hc0 hc1 hc2 hrd hcp hsm hsu ⊢
      obtain ⟨up, su, Al, cl, es, rlo, rhi⟩ := y
      simp only [rdat, List.length_map] at hc0 hc1 hc2 hsu hsm ⊢
      obtain ⟨k, hk⟩ : ∃ k : Nat, su = (k : Int) := ⟨su.toNat, by omega⟩
      subst hk
      have hkl : k ≤ es.length := by omega
      have HSO := Lib.hid (fun W => sureOf_any up Al es.length cl k W hcp hkl)
      have HCL := Lib.hid (fun W (hW : Below w.heap.size w W) => copyLog_any Al k cl (es.take k) B W (by rw [List.length_take]; omega) (RowsB.below (K := KE) (RowsB.take (K := KE) hrd k) (hW.mono hB)) (Nat.le_trans hB hW.size) ⟨by have := hsm.1; simp at this ⊢; omega, fun d hd => hsm.2 d (by rw [List.map_take] at hd; exact List.mem_of_mem_take hd)⟩)
      have hq0 : (0 : Int) ≤ (q : Int) := by omega
      have hq1 : (q : Int) < (n : Int) := by omega
      have hbw := Nat.lt_of_lt_of_le hbB hB
      rw [Int.toNat_natCast, show (List.take k (es.map EH.d)).length = k by rw [List.length_take, List.length_map]; omega, ← List.map_take]
      obtain ⟨nl, hnl⟩ : ∃ nl, nl = es.length := ⟨_, rfl⟩
      rw [← hnl] at hc1 HSO
      clear hg hl hc hy hrd hcp hsm hsu hnl hqn hqh h hm hcap hn
      go_enter Try.func39, Try.ntmps39
      go_wp2_with fail
      (with_reducible refine HGG.out.mono ?_)
      rintro e w1 ⟨rfl, ha1⟩
      have HB1 := Lib.hid (HB0.out.trans (ha1.mono HB0.out.size))
      have hk1 := (ha1.block w.heap.size hwl).trans HK0.out
      have y0 := cell_of_row _ _ 0 _ 24 (0, 0) hk1
      have y1 := cell_of_row _ _ 1 _ 24 (0, 0) hk1
      have y2 := cell_of_row _ _ 2 _ 24 (0, 0) hk1
      have yl := lt_blk hk1
      have HK1 := Lib.hid hk1
      clear ha1 hk1
      go_wp2_with fail
      (with_reducible refine (HH.out _).mono ?_)
      rintro e w2 ⟨rfl, ha2⟩
      have hb2 := HB1.out.trans (ha2.mono HB1.out.size)
      have hk2 := (ha2.block w.heap.size yl).trans HK1.out
      have x0 := cell_of_row _ _ 0 _ 24 (0, 0) hk2
      have x2 := cell_of_row _ _ 2 _ 24 (0, 0) hk2
      have xl := lt_blk hk2
      have p0 := (hb2.cell (p := ⟨b, off + q * 3, none⟩) hbw).trans hc0
      have p1 := (hb2.cell (p := ⟨b, off + q * 3 + 1, none⟩) hbw).trans hc1
      have p2 := (hb2.cell (p := ⟨b, off + q * 3 + 2, none⟩) hbw).trans hc2
      have HB2 := Lib.hid hb2
      clear ha2 hb2 hk2 y0 y1 y2
      go_wp2_with fail
      (with_reducible refine (HSO.out _).mono ?_)
      rintro e w3 ⟨rfl, ha3⟩
      have HB3 := Lib.hid (HB2.out.trans (ha3.mono HB2.out.size))
      clear ha3 x0 x2 p0 p1 p2
      go_wp2_with fail
      (with_reducible refine (HCL.out _ HB3.out).mono ?_)
      rintro e w4 ⟨A4, c4, gs4, rfl, hd4, ho4, ha4⟩
      have HR := Lib.hid (show ∃ A c gs, (.returned (.tuple #[.slice A4 k c4, .bool true]) : Ending) = .returned (.tuple #[.slice A k c, .bool true]) ∧ gs.map EH.d = (es.take k).map EH.d ∧ OwnK KE w4 w.heap.size w4.heap.size A c gs ∧ Below w.heap.size w w4 from ⟨A4, c4, gs4, rfl, hd4, ho4.wider HB3.out.size (Nat.le_refl _), HB3.out.trans (ha4.mono HB3.out.size)⟩)
      clear hd4 ho4 ha4
      go_wp2
      exact bodyPost_ret (v := .tuple #[.slice A4 k c4, .bool true]) (by simp [results, Try.results39, go_sem]) rfl HR.out

set_option maxRecDepth 100000 in
set_option maxHeartbeats 4000000 in
theorem specSureLog_any (A : Option Addr) (n c : Nat) (tm ld : Int) (hs : List RH) (B : Nat) (w : World) (hn : hs.length = n) (h : RowsB KR w B A hs) (hB : B ≤ w.heap.size) (hm : RpSmall (hs.map rdat)) (hcap : ∀ r ∈ hs, CapOK r) :
    Calls Try.prog 38 #[.agg #[.slice A n c, .int .i64 tm, .int .i64 ld]] w (LAPost (sureA tm ld (hs.map rdat)) w) := by
  have hb0 := below1 w (.cells #[.slice A n c, .int .i64 tm, .int .i64 ld] 24)
  have hk0 := heap_alloc_new w (.cells #[.slice A n c, .int .i64 tm, .int .i64 ld] 24)
  have HGG := Lib.hid (specGoodGroup_any A n c tm ld hs B _ hn (h.below (hb0.mono hB)) (Nat.le_trans hB hb0.size) hm)
  have HB0 := Lib.hid hb0
  have HK0 := Lib.hid hk0
  have hwl : w.heap.size < (w.alloc (.cells #[.slice A n c, .int .i64 tm, .int .i64 ld] 24)).heap.size := by simp
  clear hb0 hk0
  cases hg : grpB tm ld (hs.map rdat) with
  | false =>
    rw [hg] at HGG
    rw [sureA_no (.inl hg), LAPost_un]
    clear hg
    go_enter Try.func38, Try.ntmps38
    go_wp2_with fail
    (with_reducible refine HGG.out.mono ?_)
    rintro e w1 ⟨rfl, ha1⟩
    have HB1 := Lib.hid (HB0.out.trans (ha1.mono HB0.out.size))
    have hk1 := (ha1.block w.heap.size hwl).trans HK0.out
    have y0 := cell_of_row _ _ 0 _ 24 (0, 0) hk1
    have y1 := cell_of_row _ _ 1 _ 24 (0, 0) hk1
    have y2 := cell_of_row _ _ 2 _ 24 (0, 0) hk1
    have yl := lt_blk hk1
    have HK1 := Lib.hid hk1
    clear ha1 hk1
    have HE := Lib.hid ((ownK_empty KE w1).wider (lo' := w.heap.size) HB1.out.size (Nat.le_refl _))
    have HBE := Lib.hid (HB1.out.alloc HB1.out.size (.cells #[] 78))
    go_wp2
    exact bodyPost_ret (v := .tuple #[.slice (some ⟨w1.heap.size, 0, none⟩) 0 0, .bool false]) (by simp [results, Try.results38, go_sem]) rfl ⟨_, _, [], rfl, rfl, HE.out, HBE.out⟩
  | true =>
    rw [hg] at HGG
    by_cases hl : ld = -1
    · rw [sureA_no (.inr hl), LAPost_un]
      have e1 : decide (ld < 0) = true := by rw [hl]; rfl
      clear hg hl
      go_enter Try.func38, Try.ntmps38
      go_wp2_with fail
      (with_reducible refine HGG.out.mono ?_)
      rintro e w1 ⟨rfl, ha1⟩
      have HB1 := Lib.hid (HB0.out.trans (ha1.mono HB0.out.size))
      have hk1 := (ha1.block w.heap.size hwl).trans HK0.out
      have y0 := cell_of_row _ _ 0 _ 24 (0, 0) hk1
      have y1 := cell_of_row _ _ 1 _ 24 (0, 0) hk1
      have y2 := cell_of_row _ _ 2 _ 24 (0, 0) hk1
      have yl := lt_blk hk1
      have HK1 := Lib.hid hk1
      clear ha1 hk1
      have HE := Lib.hid ((ownK_empty KE w1).wider (lo' := w.heap.size) HB1.out.size (Nat.le_refl _))
      have HBE := Lib.hid (HB1.out.alloc HB1.out.size (.cells #[] 78))
      go_wp2
      exact bodyPost_ret (v := .tuple #[.slice (some ⟨w1.heap.size, 0, none⟩) 0 0, .bool false]) (by simp [results, Try.results38, go_sem]) rfl ⟨_, _, [], rfl, rfl, HE.out, HBE.out⟩
    · obtain ⟨q, hq, hqn⟩ := lead_of hg hl
      subst hq
      have e1 : decide ((q : Int) < 0) = false := by simp
      have hsu := sure_of hg q hqn
      rw [sureA_yes hg hqn, LAPost_un, r_at (show q < hs.length by simpa using hqn)]
      rw [r_at (show q < hs.length by simpa using hqn)] at hsu
      have hqh : q < hs.length := by simpa using hqn
      obtain ⟨b, off, rfl, hbB, hc⟩ := rp_get h (by omega)
      obtain ⟨hc0, hc1, hc2⟩ := hc q hqh
      have hrd := h.at q hqh
      have hcp := hcap _ (List.getElem_mem hqh)
      have hsm := hm.2 (rdat (hs[q]'hqh)) (List.mem_map.2 ⟨_, List.getElem_mem hqh, rfl⟩)
      obtain ⟨y, hy⟩ : ∃ y, y = hs[q]'hqh := ⟨_, rfl⟩
      rw [← hy] at hc0 hc1 hc2 hrd hcp hsm hsu ⊢
      obtain ⟨up, su, Al, cl, es, rlo, rhi⟩ := y
      simp only [rdat, List.length_map] at hc0 hc1 hc2 hsu hsm ⊢
      obtain ⟨k, hk⟩ : ∃ k : Nat, su = (k : Int) := ⟨su.toNat, by omega⟩
      subst hk
      have hkl : k ≤ es.length := by omega
      have HCL := Lib.hid (fun W (hW : Below w.heap.size w W) => l9OwnLog_any Al k cl (es.take k) B W (by rw [List.length_take]; omega) (RowsB.below (K := KE) (RowsB.take (K := KE) hrd k) (hW.mono hB)) (Nat.le_trans hB hW.size) ⟨by have := hsm.1; simp at this ⊢; omega, fun d hd => hsm.2 d (by rw [List.map_take] at hd; exact List.mem_of_mem_take hd)⟩)
      have hq0 : (0 : Int) ≤ (q : Int) := by omega
      have hq1 : (q : Int) < (n : Int) := by omega
      have hbw := Nat.lt_of_lt_of_le hbB hB
      rw [Int.toNat_natCast, show (List.take k (es.map EH.d)).length = k by rw [List.length_take, List.length_map]; omega, ← List.map_take]
      unfold CapOK at hcp
      simp only at hcp
      have hnl0 : es.length ≤ 1048576 := by have := hsm.1; simpa using this
      obtain ⟨nl, hnl⟩ : ∃ nl, nl = es.length := ⟨_, rfl⟩
      simp only [← hnl] at hc1 hcp hkl hnl0
      clear hg hl hc hy hrd hsm hsu hnl hqn hqh h hm hcap hn
      rcases hcp with ⟨rfl, rfl, rfl⟩ | ⟨ga, rfl, hk1, hk2⟩
      · obtain rfl : k = 0 := by omega
        go_enter Try.func38, Try.ntmps38
        go_wp2_with fail
        (with_reducible refine HGG.out.mono ?_)
        rintro e w1 ⟨rfl, ha1⟩
        have HB1 := Lib.hid (HB0.out.trans (ha1.mono HB0.out.size))
        have hk1 := (ha1.block w.heap.size hwl).trans HK0.out
        have y0 := cell_of_row _ _ 0 _ 24 (0, 0) hk1
        have y1 := cell_of_row _ _ 1 _ 24 (0, 0) hk1
        have y2 := cell_of_row _ _ 2 _ 24 (0, 0) hk1
        have yl := lt_blk hk1
        have HK1 := Lib.hid hk1
        clear ha1 hk1
        have p1 := (HB1.out.cell (p := ⟨b, off + q * 3 + 1, none⟩) hbw).trans hc1
        have p2 := (HB1.out.cell (p := ⟨b, off + q * 3 + 2, none⟩) hbw).trans hc2
        have hbw1 := Nat.lt_of_lt_of_le hbw HB1.out.size
        have s0 : w1.cell? ⟨w.heap.size, 0, none⟩ = some (.slice (some ⟨b, off, none⟩) n c) := y0
        have s2 : w1.cell? ⟨w.heap.size, 2, none⟩ = some (.int .i64 (q : Int)) := y2
        have HS0 : w1.drew.cell? ⟨w.heap.size, 0, none⟩ = some (.slice (some ⟨b, off, none⟩) n c) ∧ w1.drew.cell? ⟨w.heap.size, 2, none⟩ = some (.int .i64 (q : Int)) ∧ w1.drew.cell? ⟨b, off + q * 3 + 1, none⟩ = some (.slice none 0 0) ∧ w1.drew.cell? ⟨b, off + q * 3 + 2, none⟩ = some (.int .i64 ((0 : Nat) : Int)) := ⟨s0, s2, p1, p2⟩
        have hbel := (Below.refl w1.heap.size w1).drew
        have HBL := Lib.hid (fun W (hW : Below w1.heap.size w1 W) => HCL.out W (HB1.out.trans (hW.mono HB1.out.size)))
        clear y0 y1 y2
        go_upto_region 3 with fail
        go_region_held3 (fun w' => w'.cell? ⟨w.heap.size, 0, none⟩ = some (.slice (some ⟨b, off, none⟩) n c) ∧ w'.cell? ⟨w.heap.size, 2, none⟩ = some (.int .i64 (q : Int)) ∧ w'.cell? ⟨b, off + q * 3 + 1, none⟩ = some (.slice none 0 0) ∧ w'.cell? ⟨b, off + q * 3 + 2, none⟩ = some (.int .i64 ((0 : Nat) : Int)))
          (first | with_reducible exact HS0 | with_reducible exact ⟨kept2 hQ1 s0 yl, kept2 hQ1 s2 yl, kept2 hQ1 p1 hbw1, kept2 hQ1 p2 hbw1⟩ | fail)
          ((go_at_call 69; (with_reducible refine (HBL.out _ hbel).mono ?_); rintro e w4 ⟨A4, c4, gs4, rfl, hd4, ho4, ha4⟩; have hQ1 : Below w1.heap.size w1 w4 := ⟨ha4.1, ha4.2, ha4.3, ha4.4, fun k hk => ha4.5 k hk⟩))
        have HR := Lib.hid (show ∃ A c gs, (.returned (.tuple #[.slice A4 0 c4, .bool true]) : Ending) = .returned (.tuple #[.slice A 0 c, .bool true]) ∧ gs.map EH.d = (es.take 0).map EH.d ∧ OwnK KE w4 w.heap.size w4.heap.size A c gs ∧ Below w.heap.size w w4 from ⟨A4, c4, gs4, rfl, hd4, ho4.wider HB1.out.size (Nat.le_refl _), HB1.out.trans (hQ1.mono HB1.out.size)⟩)
        clear hd4 ho4 ha4 hQ1
        try go_wp2
        exact bodyPost_ret (v := .tuple #[.slice A4 0 c4, .bool true]) (by simp [results, Try.results38, go_sem]) rfl HR.out
      · have hk0 : (0 : Int) ≤ (k : Int) := by omega
        have hkc : (k : Int) ≤ (cl : Int) := by omega
        unfold maxLen at hk2
        go_enter Try.func38, Try.ntmps38
        go_wp2_with fail
        (with_reducible refine HGG.out.mono ?_)
        rintro e w1 ⟨rfl, ha1⟩
        have HB1 := Lib.hid (HB0.out.trans (ha1.mono HB0.out.size))
        have hk1 := (ha1.block w.heap.size hwl).trans HK0.out
        have y0 := cell_of_row _ _ 0 _ 24 (0, 0) hk1
        have y1 := cell_of_row _ _ 1 _ 24 (0, 0) hk1
        have y2 := cell_of_row _ _ 2 _ 24 (0, 0) hk1
        have yl := lt_blk hk1
        have HK1 := Lib.hid hk1
        clear ha1 hk1
        have p1 := (HB1.out.cell (p := ⟨b, off + q * 3 + 1, none⟩) hbw).trans hc1
        have p2 := (HB1.out.cell (p := ⟨b, off + q * 3 + 2, none⟩) hbw).trans hc2
        have hbw1 := Nat.lt_of_lt_of_le hbw HB1.out.size
        have s0 : w1.cell? ⟨w.heap.size, 0, none⟩ = some (.slice (some ⟨b, off, none⟩) n c) := y0
        have s2 : w1.cell? ⟨w.heap.size, 2, none⟩ = some (.int .i64 (q : Int)) := y2
        have HS0 : w1.drew.cell? ⟨w.heap.size, 0, none⟩ = some (.slice (some ⟨b, off, none⟩) n c) ∧ w1.drew.cell? ⟨w.heap.size, 2, none⟩ = some (.int .i64 (q : Int)) ∧ w1.drew.cell? ⟨b, off + q * 3 + 1, none⟩ = some (.slice (some ⟨ga, 0, none⟩) nl cl) ∧ w1.drew.cell? ⟨b, off + q * 3 + 2, none⟩ = some (.int .i64 (k : Int)) := ⟨s0, s2, p1, p2⟩
        have hbel := (Below.refl w1.heap.size w1).drew
        have HBL := Lib.hid (fun W (hW : Below w1.heap.size w1 W) => HCL.out W (HB1.out.trans (hW.mono HB1.out.size)))
        clear y0 y1 y2
        go_upto_region 3 with fail
        go_region_held3 (fun w' => w'.cell? ⟨w.heap.size, 0, none⟩ = some (.slice (some ⟨b, off, none⟩) n c) ∧ w'.cell? ⟨w.heap.size, 2, none⟩ = some (.int .i64 (q : Int)) ∧ w'.cell? ⟨b, off + q * 3 + 1, none⟩ = some (.slice (some ⟨ga, 0, none⟩) nl cl) ∧ w'.cell? ⟨b, off + q * 3 + 2, none⟩ = some (.int .i64 (k : Int)))
          (first | with_reducible exact HS0 | with_reducible exact ⟨kept2 hQ1 s0 yl, kept2 hQ1 s2 yl, kept2 hQ1 p1 hbw1, kept2 hQ1 p2 hbw1⟩ | fail)
          ((go_at_call 69; (with_reducible refine (HBL.out _ hbel).mono ?_); rintro e w4 ⟨A4, c4, gs4, rfl, hd4, ho4, ha4⟩; have hQ1 : Below w1.heap.size w1 w4 := ⟨ha4.1, ha4.2, ha4.3, ha4.4, fun k hk => ha4.5 k hk⟩))
        have HR := Lib.hid (show ∃ A c gs, (.returned (.tuple #[.slice A4 k c4, .bool true]) : Ending) = .returned (.tuple #[.slice A k c, .bool true]) ∧ gs.map EH.d = (es.take k).map EH.d ∧ OwnK KE w4 w.heap.size w4.heap.size A c gs ∧ Below w.heap.size w w4 from ⟨A4, c4, gs4, rfl, hd4, ho4.wider HB1.out.size (Nat.le_refl _), HB1.out.trans (hQ1.mono HB1.out.size)⟩)
        clear hd4 ho4 ha4 hQ1
        try go_wp2
        exact bodyPost_ret (v := .tuple #[.slice A4 k c4, .bool true]) (by simp [results, Try.results38, go_sem]) rfl HR.out
end Go.Proofs.Ytnmhigbnlpcedaa.Gr
