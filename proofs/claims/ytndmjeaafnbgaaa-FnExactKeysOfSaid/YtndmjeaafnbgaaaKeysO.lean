/-
  The contracts of KeysOf, of the program and of the model.
-/
import Derived.Test.YtndmjeaafnbgaaaKeysI
namespace Go.Proofs.Ytndmjeaafnbgaaa
open Go.RowKit CM Go.Sort
set_option linter.unusedVariables false

theorem rec_len {k t tm ld : Int} {y : Bool} {rs : List ByteArray} {ws : List (ByteArray × ByteArray × Bool)} (h : recB k t tm ld y rs ws = true) : rs.length ≤ 8 ∧ ws.length ≤ 8 := by
  have hr : restB rs ws = true → rs.length ≤ 8 ∧ ws.length ≤ 8 := fun h => by
    unfold restB at h
    rw [decide_eq_true_eq] at h
    omega
  unfold recB at h
  split at h
  · simp only [partsB, ksB, Bool.and_eq_true, decide_eq_true_eq] at h
    omega
  · split at h
    · simp only [Bool.and_eq_true] at h; exact hr h.2.1
    · split at h
      · simp only [Bool.and_eq_true] at h; exact hr h.2.1
      · cases h

def KeysOfPost (v : Bool) (rs : List ByteArray) (ws : List (ByteArray × ByteArray × Bool)) (w : World) (e : Ending) (w' : World) : Prop :=
  Below w.heap.size w w' ∧ ((v = false ∧ e = .returned (.tuple #[.slice none 0 0, .bool false])) ∨
    (v = true ∧ ∃ A c R, e = .returned (.tuple #[.slice A R.length c, .bool true]) ∧ OwnS w' w.heap.size w'.heap.size A c R ∧ KeysRel R rs (ws.map Prod.fst) ∧ R.length ≤ 1000))
def SpecKeysPost (v : Bool) (rs : List ByteArray) (ws : List (ByteArray × ByteArray × Bool)) (w : World) (e : Ending) (w' : World) : Prop :=
  Below w.heap.size w w' ∧ ((v = false ∧ e = .returned (.tuple #[.slice none 0 0, .bool false])) ∨
    (v = true ∧ ∃ A c R, e = .returned (.tuple #[.slice A R.length c, .bool true]) ∧ StrsB w' w'.heap.size A R ∧ KeysRel R rs (ws.map Prod.fst)))

set_option maxRecDepth 100000 in
set_option maxHeartbeats 2000000 in
theorem specKeysOf_any (k t tm ld : Int) (y : Bool) (Ar Aw : Option Addr) (nr nw cr cw : Nat) (rs : List ByteArray) (ws : List (ByteArray × ByteArray × Bool)) (B : Nat) (w : World) (hnr : rs.length = nr) (hnw : ws.length = nw) (hr : StrsB w B Ar rs) (hw : WritesB w B Aw ws) (hB : B ≤ w.heap.size) (hsr : SSmall rs) (hsw : WSmall ws) :
    Calls Try.prog 62 #[.agg #[.int .i64 k, .int .i64 t, .int .i64 tm, .int .i64 ld, .slice Ar nr cr, .slice Aw nw cw, .bool y]] w (SpecKeysPost (recB k t tm ld y rs ws) rs ws w) := by
  have hb1 := below1 w (.cells #[.int .i64 k, .int .i64 t, .int .i64 tm, .int .i64 ld, .slice Ar nr cr, .slice Aw nw cw, .bool y] 68)
  have kn := heap_alloc_new w (.cells #[.int .i64 k, .int .i64 t, .int .i64 tm, .int .i64 ld, .slice Ar nr cr, .slice Aw nw cw, .bool y] 68)
  have HG := Lib.hid (l4Good_any k t tm ld y Ar Aw nr nw cr cw rs ws B _ hnr hnw (hr.below (hb1.mono hB)) (hw.below (hb1.mono hB)) (Nat.le_trans hB hb1.size) hsr hsw)
  have HL := Lib.hid (fun h => rec_len (k := k) (t := t) (tm := tm) (ld := ld) (y := y) (rs := rs) (ws := ws) h)
  rw [hnr, hnw] at HL
  have HK := Lib.hid (fun W (hW : Below w.heap.size w W) (h1 : nr ≤ 8) (h2 : nw ≤ 8) => l4KeysOf_any Ar Aw nr nw cr cw rs ws B W hnr hnw (hr.below (hW.mono hB)) (hw.below (hW.mono hB)) (Nat.le_trans hB hW.size) h1 h2)
  obtain ⟨v, hv⟩ : ∃ v, v = recB k t tm ld y rs ws := ⟨_, rfl⟩
  rw [← hv] at HG HL ⊢
  have HB := Lib.hid hb1
  have KN := Lib.hid kn
  clear hv hr hw hnr hnw hb1 kn hsr hsw
  cases v with
  | false =>
    go_enter Try.func62, Try.ntmps62
    go_wp2_with fail
    refine HG.out.mono ?_
    rintro e w1 ⟨rfl, hb2⟩
    have HF := Lib.hid (show SpecKeysPost false rs ws w (.returned (.tuple #[.slice none 0 0, .bool false])) w1 from ⟨HB.out.trans (hb2.mono HB.out.size), .inl ⟨rfl, rfl⟩⟩)
    clear hb2
    go_wp2
    go_ret2
    exact HF.out
  | true =>
    obtain ⟨h1, h2⟩ := HL.out rfl
    go_enter Try.func62, Try.ntmps62
    go_wp2_with fail
    refine HG.out.mono ?_
    rintro e w1 ⟨rfl, hb2⟩
    have HB2 := Lib.hid (HB.out.trans (hb2.mono HB.out.size))
    have kb := (hb2.block w.heap.size (lt_blk KN.out)).trans KN.out
    have b4 := cell_blk (i := 4) kb rfl
    have b5 := cell_blk (i := 5) kb rfl
    clear hb2 kb
    go_wp2_with fail
    refine (HK.out _ HB2.out h1 h2).mono ?_
    rintro e w2 ⟨v2, rfl, A, c, R, rfl, hR, _, hrel, _, hb3⟩
    have HF := Lib.hid (show SpecKeysPost true rs ws w (.returned (.tuple #[.slice A R.length c, .bool true])) w2 from ⟨HB2.out.trans (hb3.mono HB2.out.size), .inr ⟨rfl, A, c, R, rfl, hR, hrel⟩⟩)
    clear hR hrel hb3
    go_wp2
    go_ret2
    exact HF.out

set_option maxRecDepth 100000 in
set_option maxHeartbeats 4000000 in
theorem implKeysOf_any (k t tm ld : Int) (y : Bool) (Ar Aw : Option Addr) (nr nw cr cw : Nat) (rs : List ByteArray) (ws : List (ByteArray × ByteArray × Bool)) (B : Nat) (w : World) (hnr : rs.length = nr) (hnw : ws.length = nw) (hr : StrsB w B Ar rs) (hw : WritesB w B Aw ws) (hB : B ≤ w.heap.size) (hsr : SSmall rs) (hsw : WSmall ws) :
    Calls Try.prog 63 #[.agg #[.int .i64 k, .int .i64 t, .int .i64 tm, .int .i64 ld, .slice Ar nr cr, .slice Aw nw cw, .bool y]] w (KeysOfPost (recB k t tm ld y rs ws) rs ws w) := by
  obtain ⟨i0, hi, hz0, hz1, hz2⟩ := info_parts infoStr
  have hb1 := below1 w (.cells #[.int .i64 k, .int .i64 t, .int .i64 tm, .int .i64 ld, .slice Ar nr cr, .slice Aw nw cw, .bool y] 68)
  have kn := heap_alloc_new w (.cells #[.int .i64 k, .int .i64 t, .int .i64 tm, .int .i64 ld, .slice Ar nr cr, .slice Aw nw cw, .bool y] 68)
  have HG := Lib.hid (implGoodRec_any k t tm ld y Ar Aw nr nw cr cw rs ws B _ hnr hnw (hr.below (hb1.mono hB)) (hw.below (hb1.mono hB)) (Nat.le_trans hB hb1.size) hsr hsw)
  have HL := Lib.hid (fun h => rec_len (k := k) (t := t) (tm := tm) (ld := ld) (y := y) (rs := rs) (ws := ws) h)
  rw [hnr, hnw] at HL
  obtain ⟨v, hv⟩ : ∃ v, v = recB k t tm ld y rs ws := ⟨_, rfl⟩
  rw [← hv] at HG HL ⊢
  have HB := Lib.hid hb1
  have KN := Lib.hid kn
  have HNR := Lib.hid hnr
  have HNW := Lib.hid hnw
  have HS := Lib.hid hr
  have HW := Lib.hid hw
  clear hv hr hw hnr hnw hb1 kn hsr hsw
  cases v with
  | false =>
    go_enter Try.func63, Try.ntmps63
    go_wp2_with fail
    refine HG.out.mono ?_
    rintro e w1 ⟨rfl, hb2⟩
    have HF := Lib.hid (show KeysOfPost false rs ws w (.returned (.tuple #[.slice none 0 0, .bool false])) w1 from ⟨HB.out.trans (hb2.mono HB.out.size), .inl ⟨rfl, rfl⟩⟩)
    clear hb2
    go_wp2
    go_ret2
    exact HF.out
  | true =>
    obtain ⟨h1, h2⟩ := HL.out rfl
    have HFL := Lib.hid (flatS_len rs)
    rw [HNR.out] at HFL
    go_enter Try.func63, Try.ntmps63
    go_wp2_with fail
    refine HG.out.mono ?_
    rintro e w1 ⟨rfl, hb2⟩
    have HB2 := Lib.hid (HB.out.trans (hb2.mono HB.out.size))
    have kb := (hb2.block w.heap.size (lt_blk KN.out)).trans KN.out
    have KB := Lib.hid kb
    have b4 := cell_blk (i := 4) kb rfl
    have hw1s : w.heap.size < w1.heap.size := lt_blk kb
    have HNEW := Lib.hid (fun hp => (HS.out.below (HB2.out.mono hB)).news (by rw [HNR.out]; exact hp))
    clear hb2 kb
    go_wp2_with (at_builtin; refine wpList_app rfl (.tmp 10) (.tmp 12) 62 rfl w1.heap.size 9 i0 _ 1 16 Try.underlying62 hi hz0 hz1 hz2 rfl (by decide) (.slice none 0 0) 0 [] rfl (World.ownsRow_nil _ _ _ _) Ar nr cr ((rs.map strCs).flatten) rfl HFL.out (fun hp => by obtain ⟨ad, e1, e2, e3⟩ := HNEW.out hp; exact ⟨ad, e1, e3⟩) (strCs_one rs) (by unfold maxLen; omega) (by omega) (Nat.le_refl _) ?_; intro v2 w2 hown2 hgrow2 hat2; have hb12 : Below w1.heap.size w1 w2 := (Below.refl _ _).grown hgrow2 (Nat.le_refl _) (fun k hk => by cases hk); have KB2 := (hb12.block w.heap.size hw1s).trans KB.out; have b5 := cell_blk (i := 5) KB2 rfl; have HR0 := Lib.hid (show w2.ownsRow w1.heap.size 9 1 v2 (nr + 0) (((rs ++ (ws.map Prod.fst).take 0).map strCs).flatten) by simpa using hown2); have HB12 := Lib.hid hb12; clear hown2 hgrow2 hat2 hb12 KB2)
    go_loopw [4, 17] (fun v i wr => ∃ j : Nat, j ≤ nw ∧ i = .int .i64 j ∧ wr.ownsRow w1.heap.size 9 1 v (nr + j) (((rs ++ (ws.map Prod.fst).take j).map strCs).flatten) ∧ Below w1.heap.size w1 wr) (fun _ i _ => nw - (intOf i).toNat)
    case atStart => exact ⟨0, by omega, rfl, HR0.out, HB12.out⟩
    case round =>
      clear HR0 b5
      rename World => wx
      obtain ⟨j, hj, rfl, hown, hb⟩ := hrel
      have hwb := HB2.out.trans (hb.mono HB2.out.size)
      by_cases hlt2 : j < nw
      · obtain ⟨b, off, rfl, hbB, hc⟩ := HW.out.get (by rw [HNW.out]; omega)
        obtain ⟨hc0, hc1, hc2⟩ := hc j (by rw [HNW.out]; exact hlt2)
        have c0 := (hwb.cell (p := ⟨b, off + j * 3, none⟩) (Nat.lt_of_lt_of_le hbB hB)).trans hc0
        have c1 := (hwb.cell (p := ⟨b, off + j * 3 + 1, none⟩) (Nat.lt_of_lt_of_le hbB hB)).trans hc1
        have c2 := (hwb.cell (p := ⟨b, off + j * 3 + 2, none⟩) (Nat.lt_of_lt_of_le hbB hB)).trans hc2
        have htk : (ws.map Prod.fst).take (j + 1) = (ws.map Prod.fst).take j ++ [(ws[j]'(by rw [HNW.out]; exact hlt2)).1] := by
          rw [List.take_succ_eq_append_getElem (by rw [List.length_map, HNW.out]; exact hlt2), List.getElem_map]
        obtain ⟨z, hz⟩ : ∃ z, z = ws[j]'(by rw [HNW.out]; exact hlt2) := ⟨_, rfl⟩
        rw [← hz] at c0 c1 c2 htk
        obtain ⟨s, sv, sg⟩ := z
        simp only at c0 c1 c2 htk
        have HTK := Lib.hid htk
        have HO := Lib.hid hown
        have HBX := Lib.hid hb
        clear hc hc0 hc1 hc2 hz hown hb hwb htk
        go_wp2_with (at_builtin; refine wpList_app rfl (.tmp 21) (.tmp 24) 62 rfl w1.heap.size 9 i0 _ 1 16 Try.underlying62 hi hz0 hz1 hz2 rfl (by decide) _ (nr + j) _ rfl ((HO.out.alloc _).alloc _) (some ⟨wx.heap.size + 1, 0, none⟩) 1 1 [.string s] rfl rfl (fun _ => ⟨_, rfl, fun q u hq => by
          match q, hq with
          | 0, hq => simp at hq; subst hq; simp [Addr.add]⟩) (by intro u hu; simp at hu; subst hu; rfl) (by unfold maxLen; omega) (by omega) (by have := HBX.out.size; simp; omega) ?_; intro v3 w3 hown3 hgrow3 hat3; have hb3 : Below w1.heap.size w1 w3 := ((HBX.out.alloc HBX.out.size _).alloc (by have := HBX.out.size; simp; omega) _).grown hgrow3 (by have := HBX.out.size; simp; omega) (fun k hk => (HO.out.lt k hk).1))
        have HN := Lib.hid (show w3.ownsRow w1.heap.size 9 1 v3 (nr + (j + 1)) (((rs ++ (ws.map Prod.fst).take (j + 1)).map strCs).flatten) by rw [HTK.out, ← List.append_assoc, List.map_append, List.flatten_append]; exact hown3)
        clear hown3 hgrow3 hat3
        go_wp2
        go_roundw
        case rel => exact ⟨j + 1, by omega, by go_num, HN.out, hb3⟩
        case measure => simp [intOf]; omega
      · have hjn : j = nw := by omega
        subst hjn
        have htk : (ws.map Prod.fst).take j = ws.map Prod.fst := List.take_of_length_le (by rw [List.length_map, HNW.out]; omega)
        rw [htk] at hown
        obtain ⟨A, c, rfl, hlen, ho⟩ := Own.ofRow hown (strCs_len _) (by decide) (fun k' hk' => (hown.lt k' hk').2)
        rw [List.length_map] at hlen ⊢
        obtain ⟨xs, hxs⟩ : ∃ xs, xs = rs ++ ws.map Prod.fst := ⟨_, rfl⟩
        have hks := keys_sorted rs (ws.map Prod.fst)
        rw [← hxs] at hlen ho hks ⊢
        have hl16 : xs.length ≤ 16 := by omega
        have HS1 := Lib.hid (sort_own (c := c) ho hb.size (by omega))
        have HKS := Lib.hid hks
        have HBX := Lib.hid hb
        have HLE := Lib.hid (sortK_len xs)
        clear hown hb hlen ho hks hwb htk hxs
        go_wp2_with fail
        refine HS1.out.mono ?_
        rintro e w4 ⟨rfl, ho4, hb4⟩
        have HB4 := Lib.hid (HBX.out.trans hb4)
        have hco := compact_own ho4 HB4.out.size (by rw [HLE.out]; omega)
        rw [HLE.out] at hco
        have HCO := Lib.hid hco
        clear ho4 hb4 hco
        go_wp2_with fail
        refine HCO.out.mono ?_
        rintro e w5 ⟨rfl, ho5, hb5⟩
        have HF := Lib.hid (show KeysOfPost true rs ws w (.returned (.tuple #[.slice A (Lib.compact (sortK xs)).length c, .bool true])) w5 from ⟨HB2.out.trans ((HB4.out.trans hb5).mono HB2.out.size), .inr ⟨rfl, A, c, (Lib.compact (sortK xs)).map toB, by rw [List.length_map], Own.wider ho5 HB2.out.size (Nat.le_refl _), HKS.out, by have := compact_le (sortK xs); rw [List.length_map, HLE.out] at *; omega⟩⟩)
        clear ho5 hb5
        go_wp2
        go_ret2
        exact HF.out
end Go.Proofs.Ytndmjeaafnbgaaa
