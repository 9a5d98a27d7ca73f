/-
  The contracts of KeysWritten, of the program and of the model.
-/
import Derived.Test.YtohkpcgekoipbaaKeysR
import Derived.Test.YtohkpcgekoipbaaAct
namespace Go.Proofs.Ytohkpcgekoipbaa
open Go.RowKit CM Go.Sort
set_option linter.unusedVariables false

set_option maxRecDepth 100000 in
set_option maxHeartbeats 2000000 in
theorem specKeysWritten_any (A : Option Addr) (n c : Nat) (ws : List (Int × ByteArray × ByteArray × Int)) (B : Nat) (w : World) (hn : ws.length = n) (h : OpsB w B A ws) (hB : B ≤ w.heap.size) (hm : OSmall ws) :
    Calls Try.prog 14 #[.slice A n c] w (SpecU (osB ws) (kwL ws) [] w) := by
  have HG := Lib.hid (l5Good_any A n c ws B w hn h hB hm)
  have HL := Lib.hid (fun h => osB_len (l := ws) h)
  obtain ⟨v, hv⟩ : ∃ v, v = osB ws := ⟨_, rfl⟩
  rw [← hv] at HG HL ⊢
  have HN := Lib.hid hn
  have hge := Nat.le_of_eq hn
  have hle := Nat.le_of_eq hn.symm
  have HS := Lib.hid h
  clear hv h hn hm
  cases v with
  | false =>
    go_enter Try.func14, Try.ntmps14
    go_wp2_with fail
    refine HG.out.mono ?_
    rintro e w1 ⟨rfl, hb1⟩
    have HF := Lib.hid (show SpecU false (kwL ws) [] w (.returned (.tuple #[.slice none 0 0, .bool false])) w1 from ⟨none, 0, [], rfl, .inl rfl, .inl ⟨rfl, rfl⟩, hb1⟩)
    clear hb1
    go_wp2
    go_ret2
    exact HF.out
  | true =>
    have hn8 : n ≤ 8 := by rw [← HN.out]; exact HL.out rfl
    go_enter Try.func14, Try.ntmps14
    go_wp2_with fail
    refine HG.out.mono ?_
    rintro e w1 ⟨rfl, hb1⟩
    have HB1 := Lib.hid hb1
    clear hb1
    go_wp2
    go_loopw [4, 12] (fun v i wr => ∃ k : Nat, k ≤ n ∧ i = .int .i64 k ∧ KRel (kwL (ws.take k)) [] w v wr) (fun _ i _ => n - (intOf i).toNat)
    case atStart => exact ⟨0, by omega, rfl, none, 0, [], rfl, .inl rfl, .inl ⟨rfl, rfl, rfl⟩, ⟨rfl, by simp [kwL]⟩, by simp [kwL], HB1.out⟩
    case round =>
      rename World => wx
      obtain ⟨k, hk, rfl, A', c', R, rfl, hR, hF, hK, hL, hb⟩ := hrel
      by_cases hlt : k < n
      · obtain ⟨b, off, rfl, hbB, hc⟩ := HS.out.get (by omega)
        obtain ⟨hc0, hc1, hc2, hc3⟩ := hc k (by omega)
        have c0 := (hb.cell (p := ⟨b, off + k * 4, none⟩) (Nat.lt_of_lt_of_le hbB hB)).trans hc0
        have c1 := (hb.cell (p := ⟨b, off + k * 4 + 1, none⟩) (Nat.lt_of_lt_of_le hbB hB)).trans hc1
        have c2 := (hb.cell (p := ⟨b, off + k * 4 + 2, none⟩) (Nat.lt_of_lt_of_le hbB hB)).trans hc2
        have c3 := (hb.cell (p := ⟨b, off + k * 4 + 3, none⟩) (Nat.lt_of_lt_of_le hbB hB)).trans hc3
        have HSU := Lib.hid (kwL_succ (l := ws) (k := k) (by omega))
        obtain ⟨y, hy⟩ : ∃ y, y = ws[k]'(by omega) := ⟨_, rfl⟩
        rw [← hy] at c0 c1 c2 c3 HSU
        obtain ⟨kd, s1, s2, bi⟩ := y
        simp only at c0 c1 c2 c3 HSU
        have hlk := kwL_len (ws.take k)
        simp only [List.length_take] at hlk
        have hRl : R.length ≤ 16 := by simp only [List.length_nil] at hL; omega
        have hbx := below1 wx (.cells #[.int .i64 kd, .string s1, .string s2, .int .i64 bi] 50)
        have HP := Lib.hid (l4PutS_any A' c' R s1 (wx.alloc (.cells #[.int .i64 kd, .string s1, .string s2, .int .i64 bi] 50)) ((hR.below hbx).mono hbx.size) hF hK.1 (by omega))
        cases hw : wkB kd with
        | true =>
          have HW := Lib.hid (fun W => l5Writes_yes kd hw W)
          rw [hw, if_pos rfl] at HSU
          have HKK := Lib.hid (fun e w' (h : PutKPost R s1 (wx.alloc (.cells #[.int .i64 kd, .string s1, .string s2, .int .i64 bi] 50)) e w') => KRel.put (A := A') (c := c') (rs' := kwL (ws.take (k + 1))) (ks' := []) hK hL (hb.trans (hbx.mono hb.size)) h (fun x => by rw [HSU.out, List.mem_append, List.mem_singleton]; constructor <;> (intro h; rcases h with h | h <;> simp_all) <;> (rcases h with h | h <;> simp_all)) (by rw [HSU.out]; simp))
          clear hc hc0 hc1 hc2 hc3 hy hR hF hK hL hb hbx hw hlk
          go_wp2_with fail
          refine (HW.out _).mono ?_
          rintro e w2 ⟨rfl, rfl⟩
          go_wp2_with fail
          refine HP.out.mono ?_
          intro e w' hpost
          obtain ⟨v2, rfl, hrel2⟩ := HKK.out _ _ hpost
          clear hpost
          go_wp2
          go_roundw
          case rel => exact ⟨k + 1, by omega, by go_num, hrel2⟩
          case measure => simp [intOf]; omega
        | false =>
          have HW := Lib.hid (fun W => l5Writes_no kd hw W)
          rw [hw, if_neg (by simp), List.append_nil] at HSU
          have HK2 := Lib.hid (show KRel (kwL (ws.take (k + 1))) [] w (.slice A' R.length c') (wx.alloc (.cells #[.int .i64 kd, .string s1, .string s2, .int .i64 bi] 50)) from ⟨A', c', R, rfl, (hR.below hbx).mono hbx.size, hF, by rw [HSU.out]; exact hK, by rw [HSU.out]; exact hL, hb.trans (hbx.mono hb.size)⟩)
          clear hc hc0 hc1 hc2 hc3 hy hR hF hK hL hb hbx hw hlk HP
          go_wp2_with fail
          refine (HW.out _).mono ?_
          rintro e w2 ⟨rfl, rfl⟩
          go_wp2
          go_roundw
          case rel => exact ⟨k + 1, by omega, by go_num, HK2.out⟩
          case measure => simp [intOf]; omega
      · have htk : ws.take k = ws := List.take_of_length_le (by omega)
        rw [htk] at hK
        have HF2 := Lib.hid (show SpecU true (kwL ws) [] w (.returned (.tuple #[.slice A' R.length c', .bool true])) wx from ⟨A', c', R, rfl, hR, .inr ⟨rfl, hK⟩, hb⟩)
        clear hR hF hK hL hb htk
        go_wp2
        go_ret2
        exact HF2.out

set_option maxRecDepth 100000 in
set_option maxHeartbeats 4000000 in
theorem implKeysWritten_any (A : Option Addr) (n c : Nat) (ws : List (Int × ByteArray × ByteArray × Int)) (B : Nat) (w : World) (hn : ws.length = n) (h : OpsB w B A ws) (hB : B ≤ w.heap.size) (hm : OSmall ws) :
    Calls Try.prog 15 #[.slice A n c] w (ImplU (osB ws) (kwL ws) [] w) := by
  obtain ⟨i0, hi, hz0, hz1, hz2⟩ := info_parts infoStr
  have HG := Lib.hid (goodOps_any A n c ws B w hn h hB hm)
  have HL := Lib.hid (fun h => osB_len (l := ws) h)
  obtain ⟨v, hv⟩ : ∃ v, v = osB ws := ⟨_, rfl⟩
  rw [← hv] at HG HL ⊢
  have HN := Lib.hid hn
  have hge := Nat.le_of_eq hn
  have hle := Nat.le_of_eq hn.symm
  have HS := Lib.hid h
  clear hv h hn hm
  cases v with
  | false =>
    go_enter Try.func15, Try.ntmps15
    go_wp2_with fail
    refine HG.out.mono ?_
    rintro e w1 ⟨rfl, hb1⟩
    have HF := Lib.hid (show ImplU false (kwL ws) [] w (.returned (.tuple #[.slice none 0 0, .bool false])) w1 from ⟨none, 0, [], rfl, .inl ⟨rfl, rfl, rfl⟩, .inl ⟨rfl, rfl⟩, by simp, hb1⟩)
    clear hb1
    go_wp2
    go_ret2
    exact HF.out
  | true =>
    have hn8 : n ≤ 8 := by rw [← HN.out]; exact HL.out rfl
    go_enter Try.func15, Try.ntmps15
    go_wp2_with fail
    refine HG.out.mono ?_
    rintro e w1 ⟨rfl, hb1⟩
    have HB1 := Lib.hid hb1
    clear hb1
    go_wp2
    go_loopw [4, 13] (fun v i wr => ∃ k : Nat, k ≤ n ∧ i = .int .i64 k ∧ wr.ownsRow w.heap.size 9 1 v (kwL (ws.take k)).length (((kwL (ws.take k)).map strCs).flatten) ∧ Below w.heap.size w wr) (fun _ i _ => n - (intOf i).toNat)
    case atStart => exact ⟨0, by omega, rfl, by simpa [kwL] using World.ownsRow_nil _ _ _ _, HB1.out⟩
    case round =>
      rename World => wx
      obtain ⟨k, hk, rfl, hown, hb⟩ := hrel
      by_cases hlt : k < n
      · obtain ⟨b, off, rfl, hbB, hc⟩ := HS.out.get (by omega)
        obtain ⟨hc0, hc1, hc2, hc3⟩ := hc k (by omega)
        have c0 := (hb.cell (p := ⟨b, off + k * 4, none⟩) (Nat.lt_of_lt_of_le hbB hB)).trans hc0
        have c1 := (hb.cell (p := ⟨b, off + k * 4 + 1, none⟩) (Nat.lt_of_lt_of_le hbB hB)).trans hc1
        have c2 := (hb.cell (p := ⟨b, off + k * 4 + 2, none⟩) (Nat.lt_of_lt_of_le hbB hB)).trans hc2
        have c3 := (hb.cell (p := ⟨b, off + k * 4 + 3, none⟩) (Nat.lt_of_lt_of_le hbB hB)).trans hc3
        have HSU := Lib.hid (kwL_succ (l := ws) (k := k) (by omega))
        obtain ⟨y, hy⟩ : ∃ y, y = ws[k]'(by omega) := ⟨_, rfl⟩
        rw [← hy] at c0 c1 c2 c3 HSU
        obtain ⟨kd, s1, s2, bi⟩ := y
        simp only at c0 c1 c2 c3 HSU
        have hlk := kwL_len (ws.take k)
        simp only [List.length_take] at hlk
        have hl16 : (kwL (ws.take k)).length ≤ 16 := by omega
        have hbx := below1 wx (.cells #[.int .i64 kd, .string s1, .string s2, .int .i64 bi] 50)
        -- ROUND
        by_cases h2 : kd = 2
        · subst h2
          have HSU2 := Lib.hid (show kwL (ws.take (k + 1)) = kwL (ws.take k) ++ [s1] by rw [HSU.out]; rfl)
          have HA := Lib.hid (fun W => actionOf_any 2 s1 s2 bi W)
          have HO := Lib.hid hown
          have HBX := Lib.hid (hb.trans (hbx.mono hb.size))
          clear hc hc0 hc1 hc2 hc3 hy hown hb hbx hlk HSU
          go_wp2_with fail
          refine (HA.out _).mono ?_
          rintro e w2 ⟨rfl, hb2⟩
          have HB2 := Lib.hid (HBX.out.trans (hb2.mono HBX.out.size))
          have HO2 := Lib.hid (row_below HO.out ((below1 wx (.cells #[.int .i64 2, .string s1, .string s2, .int .i64 bi] 50)).trans (hb2.mono (below1 wx (.cells #[.int .i64 2, .string s1, .string s2, .int .i64 bi] 50)).size)))
          clear hb2
          rw [actV_2]
          have hta := set_set
          have htb := set_add
          go_wp2_with fail
          refine (setKey_any _ _ _ _).mono ?_
          rintro e w9 ⟨rfl, hb9⟩
          have HB9 := Lib.hid (HB2.out.trans (hb9.mono HB2.out.size))
          have HO9 := Lib.hid (row_below HO2.out hb9)
          clear hb9
          go_wp2_with (at_builtin; refine wpList_app rfl (.tmp 26) (.tmp 29) 32 rfl w.heap.size 9 i0 _ 1 16 Try.underlying32 hi hz0 hz1 hz2 rfl (by decide) _ (kwL (ws.take k)).length (((kwL (ws.take k)).map strCs).flatten) rfl (HO9.out.alloc _) (some ⟨w9.heap.size, 0, none⟩) 1 1 [.string s1] rfl rfl (fun _ => ⟨_, rfl, fun q u hq => by
              match q, hq with
              | 0, hq => simp at hq; subst hq; simp [Addr.add]⟩) (by intro u hu; simp at hu; subst hu; rfl) (by unfold maxLen; omega) (by omega) (by have := HB9.out.size; simp; omega) ?_; intro v3 w3 hown3 hgrow3 hat3; have hb3 : Below w.heap.size w w3 := (HB9.out.alloc HB9.out.size _).grown hgrow3 (by have := HB9.out.size; simp; omega) (fun k hk => (HO9.out.lt k hk).1))
          have HN3 := Lib.hid (show w3.ownsRow w.heap.size 9 1 v3 (kwL (ws.take (k + 1))).length (((kwL (ws.take (k + 1))).map strCs).flatten) by rw [HSU2.out, List.length_append, List.length_singleton, List.map_append, List.flatten_append]; exact hown3)
          clear hown3 hgrow3 hat3
          go_wp2
          go_roundw
          case rel => exact ⟨k + 1, by omega, by go_num, HN3.out, hb3⟩
          case measure => simp [intOf]; omega
        · skip
          by_cases h3 : kd = 3
          · subst h3
            have HSU2 := Lib.hid (show kwL (ws.take (k + 1)) = kwL (ws.take k) ++ [s1] by rw [HSU.out]; rfl)
            have HA := Lib.hid (fun W => actionOf_any 3 s1 s2 bi W)
            have HO := Lib.hid hown
            have HBX := Lib.hid (hb.trans (hbx.mono hb.size))
            clear hc hc0 hc1 hc2 hc3 hy hown hb hbx hlk HSU
            go_wp2_with fail
            refine (HA.out _).mono ?_
            rintro e w2 ⟨rfl, hb2⟩
            have HB2 := Lib.hid (HBX.out.trans (hb2.mono HBX.out.size))
            have HO2 := Lib.hid (row_below HO.out ((below1 wx (.cells #[.int .i64 3, .string s1, .string s2, .int .i64 bi] 50)).trans (hb2.mono (below1 wx (.cells #[.int .i64 3, .string s1, .string s2, .int .i64 bi] 50)).size)))
            clear hb2
            rw [actV_3]
            have hta := set_set
            have htb := set_add
            go_wp2_with fail
            refine (setKey_any _ _ _ _).mono ?_
            rintro e w9 ⟨rfl, hb9⟩
            have HB9 := Lib.hid (HB2.out.trans (hb9.mono HB2.out.size))
            have HO9 := Lib.hid (row_below HO2.out hb9)
            clear hb9
            go_wp2_with (at_builtin; refine wpList_app rfl (.tmp 26) (.tmp 29) 32 rfl w.heap.size 9 i0 _ 1 16 Try.underlying32 hi hz0 hz1 hz2 rfl (by decide) _ (kwL (ws.take k)).length (((kwL (ws.take k)).map strCs).flatten) rfl (HO9.out.alloc _) (some ⟨w9.heap.size, 0, none⟩) 1 1 [.string s1] rfl rfl (fun _ => ⟨_, rfl, fun q u hq => by
                match q, hq with
                | 0, hq => simp at hq; subst hq; simp [Addr.add]⟩) (by intro u hu; simp at hu; subst hu; rfl) (by unfold maxLen; omega) (by omega) (by have := HB9.out.size; simp; omega) ?_; intro v3 w3 hown3 hgrow3 hat3; have hb3 : Below w.heap.size w w3 := (HB9.out.alloc HB9.out.size _).grown hgrow3 (by have := HB9.out.size; simp; omega) (fun k hk => (HO9.out.lt k hk).1))
            have HN3 := Lib.hid (show w3.ownsRow w.heap.size 9 1 v3 (kwL (ws.take (k + 1))).length (((kwL (ws.take (k + 1))).map strCs).flatten) by rw [HSU2.out, List.length_append, List.length_singleton, List.map_append, List.flatten_append]; exact hown3)
            clear hown3 hgrow3 hat3
            go_wp2
            go_roundw
            case rel => exact ⟨k + 1, by omega, by go_num, HN3.out, hb3⟩
            case measure => simp [intOf]; omega
          · skip
            by_cases h4 : kd = 4
            · subst h4
              have HSU2 := Lib.hid (show kwL (ws.take (k + 1)) = kwL (ws.take k) ++ [s1] by rw [HSU.out]; rfl)
              have HA := Lib.hid (fun W => actionOf_any 4 s1 s2 bi W)
              have HO := Lib.hid hown
              have HBX := Lib.hid (hb.trans (hbx.mono hb.size))
              clear hc hc0 hc1 hc2 hc3 hy hown hb hbx hlk HSU
              go_wp2_with fail
              refine (HA.out _).mono ?_
              rintro e w2 ⟨rfl, hb2⟩
              have HB2 := Lib.hid (HBX.out.trans (hb2.mono HBX.out.size))
              have HO2 := Lib.hid (row_below HO.out ((below1 wx (.cells #[.int .i64 4, .string s1, .string s2, .int .i64 bi] 50)).trans (hb2.mono (below1 wx (.cells #[.int .i64 4, .string s1, .string s2, .int .i64 bi] 50)).size)))
              clear hb2
              rw [actV_4]
              have hta := add_set
              have htb := add_add
              go_wp2_with fail
              refine (onKey_any _ _).mono ?_
              rintro e w9 ⟨rfl, rfl⟩
              have HB9 := HB2
              have HO9 := HO2
              go_wp2_with (at_builtin; refine wpList_app rfl (.tmp 26) (.tmp 29) 32 rfl w.heap.size 9 i0 _ 1 16 Try.underlying32 hi hz0 hz1 hz2 rfl (by decide) _ (kwL (ws.take k)).length (((kwL (ws.take k)).map strCs).flatten) rfl (HO9.out.alloc _) (some ⟨w2.heap.size, 0, none⟩) 1 1 [.string s1] rfl rfl (fun _ => ⟨_, rfl, fun q u hq => by
                  match q, hq with
                  | 0, hq => simp at hq; subst hq; simp [Addr.add]⟩) (by intro u hu; simp at hu; subst hu; rfl) (by unfold maxLen; omega) (by omega) (by have := HB9.out.size; simp; omega) ?_; intro v3 w3 hown3 hgrow3 hat3; have hb3 : Below w.heap.size w w3 := (HB9.out.alloc HB9.out.size _).grown hgrow3 (by have := HB9.out.size; simp; omega) (fun k hk => (HO9.out.lt k hk).1))
              have HN3 := Lib.hid (show w3.ownsRow w.heap.size 9 1 v3 (kwL (ws.take (k + 1))).length (((kwL (ws.take (k + 1))).map strCs).flatten) by rw [HSU2.out, List.length_append, List.length_singleton, List.map_append, List.flatten_append]; exact hown3)
              clear hown3 hgrow3 hat3
              go_wp2
              go_roundw
              case rel => exact ⟨k + 1, by omega, by go_num, HN3.out, hb3⟩
              case measure => simp [intOf]; omega
            · skip
              have hwk : wkB kd = false := by simp [wkB, h2, h3, h4]
              by_cases h5 : kd = 5
              · subst h5
                have HSU2 := Lib.hid (show kwL (ws.take (k + 1)) = kwL (ws.take k) by rw [HSU.out, hwk, if_neg (by simp), List.append_nil])
                have HA := Lib.hid (fun W => actionOf_any 5 s1 s2 bi W)
                have HO := Lib.hid hown
                have HBX := Lib.hid (hb.trans (hbx.mono hb.size))
                clear hc hc0 hc1 hc2 hc3 hy hown hb hbx hlk HSU hwk
                go_wp2_with fail
                refine (HA.out _).mono ?_
                rintro e w2 ⟨rfl, hb2⟩
                have HB2 := Lib.hid (HBX.out.trans (hb2.mono HBX.out.size))
                have HO2 := Lib.hid (row_below HO.out ((below1 wx (.cells #[.int .i64 5, .string s1, .string s2, .int .i64 bi] 50)).trans (hb2.mono (below1 wx (.cells #[.int .i64 5, .string s1, .string s2, .int .i64 bi] 50)).size)))
                clear hb2
                rw [actV_5]
                have hta := nee_set
                have htb := nee_add
                go_wp2
                have HN3 := Lib.hid (show w2.ownsRow w.heap.size 9 1 u4 (kwL (ws.take (k + 1))).length (((kwL (ws.take (k + 1))).map strCs).flatten) by rw [HSU2.out]; exact HO2.out)
                go_roundw
                case rel => exact ⟨k + 1, by omega, by go_num, HN3.out, HB2.out⟩
                case measure => simp [intOf]; omega
              · skip
                by_cases h6 : kd = 6
                · subst h6
                  have HSU2 := Lib.hid (show kwL (ws.take (k + 1)) = kwL (ws.take k) by rw [HSU.out, hwk, if_neg (by simp), List.append_nil])
                  have HA := Lib.hid (fun W => actionOf_any 6 s1 s2 bi W)
                  have HO := Lib.hid hown
                  have HBX := Lib.hid (hb.trans (hbx.mono hb.size))
                  clear hc hc0 hc1 hc2 hc3 hy hown hb hbx hlk HSU hwk
                  go_wp2_with fail
                  refine (HA.out _).mono ?_
                  rintro e w2 ⟨rfl, hb2⟩
                  have HB2 := Lib.hid (HBX.out.trans (hb2.mono HBX.out.size))
                  have HO2 := Lib.hid (row_below HO.out ((below1 wx (.cells #[.int .i64 6, .string s1, .string s2, .int .i64 bi] 50)).trans (hb2.mono (below1 wx (.cells #[.int .i64 6, .string s1, .string s2, .int .i64 bi] 50)).size)))
                  clear hb2
                  rw [actV_6]
                  have hta := lac_set
                  have htb := lac_add
                  go_wp2
                  have HN3 := Lib.hid (show w2.ownsRow w.heap.size 9 1 u4 (kwL (ws.take (k + 1))).length (((kwL (ws.take (k + 1))).map strCs).flatten) by rw [HSU2.out]; exact HO2.out)
                  go_roundw
                  case rel => exact ⟨k + 1, by omega, by go_num, HN3.out, HB2.out⟩
                  case measure => simp [intOf]; omega
                · skip
                  by_cases h7 : kd = 7
                  · subst h7
                    have HSU2 := Lib.hid (show kwL (ws.take (k + 1)) = kwL (ws.take k) by rw [HSU.out, hwk, if_neg (by simp), List.append_nil])
                    have HA := Lib.hid (fun W => actionOf_any 7 s1 s2 bi W)
                    have HO := Lib.hid hown
                    have HBX := Lib.hid (hb.trans (hbx.mono hb.size))
                    clear hc hc0 hc1 hc2 hc3 hy hown hb hbx hlk HSU hwk
                    go_wp2_with fail
                    refine (HA.out _).mono ?_
                    rintro e w2 ⟨rfl, hb2⟩
                    have HB2 := Lib.hid (HBX.out.trans (hb2.mono HBX.out.size))
                    have HO2 := Lib.hid (row_below HO.out ((below1 wx (.cells #[.int .i64 7, .string s1, .string s2, .int .i64 bi] 50)).trans (hb2.mono (below1 wx (.cells #[.int .i64 7, .string s1, .string s2, .int .i64 bi] 50)).size)))
                    clear hb2
                    rw [actV_7]
                    have hta := mat_set
                    have htb := mat_add
                    go_wp2
                    have HN3 := Lib.hid (show w2.ownsRow w.heap.size 9 1 u4 (kwL (ws.take (k + 1))).length (((kwL (ws.take (k + 1))).map strCs).flatten) by rw [HSU2.out]; exact HO2.out)
                    go_roundw
                    case rel => exact ⟨k + 1, by omega, by go_num, HN3.out, HB2.out⟩
                    case measure => simp [intOf]; omega
                  · skip
                    have HSU2 := Lib.hid (show kwL (ws.take (k + 1)) = kwL (ws.take k) by rw [HSU.out, hwk, if_neg (by simp), List.append_nil])
                    have HA := Lib.hid (fun W => actionOf_any kd s1 s2 bi W)
                    have HO := Lib.hid hown
                    have HBX := Lib.hid (hb.trans (hbx.mono hb.size))
                    clear hc hc0 hc1 hc2 hc3 hy hown hb hbx hlk HSU hwk
                    go_wp2_with fail
                    refine (HA.out _).mono ?_
                    rintro e w2 ⟨rfl, hb2⟩
                    have HB2 := Lib.hid (HBX.out.trans (hb2.mono HBX.out.size))
                    have HO2 := Lib.hid (row_below HO.out ((below1 wx (.cells #[.int .i64 kd, .string s1, .string s2, .int .i64 bi] 50)).trans (hb2.mono (below1 wx (.cells #[.int .i64 kd, .string s1, .string s2, .int .i64 bi] 50)).size)))
                    clear hb2
                    rw [actV_1 kd s1 s2 bi h2 h3 h4 h5 h6 h7]
                    have hta := rea_set
                    have htb := rea_add
                    go_wp2
                    have HN3 := Lib.hid (show w2.ownsRow w.heap.size 9 1 u4 (kwL (ws.take (k + 1))).length (((kwL (ws.take (k + 1))).map strCs).flatten) by rw [HSU2.out]; exact HO2.out)
                    go_roundw
                    case rel => exact ⟨k + 1, by omega, by go_num, HN3.out, HB2.out⟩
                    case measure => simp [intOf]; omega
      · have hkn : k = n := by omega
        subst hkn
        have htk : ws.take k = ws := List.take_of_length_le (by omega)
        rw [htk] at hown
        obtain ⟨A', c', rfl, hlen, ho⟩ := Own.ofRow hown (strCs_len _) (by decide) (fun k' hk' => (hown.lt k' hk').2)
        rw [List.length_map] at hlen ⊢
        obtain ⟨xs, hxs⟩ : ∃ xs, xs = kwL ws := ⟨_, rfl⟩
        have hks := keys_sorted (kwL ws) []
        rw [List.append_nil, ← hxs] at hks
        have hlx := kwL_len ws
        rw [← hxs] at hlen ho hlx ⊢
        have hl16 : xs.length ≤ 16 := by omega
        have HS1 := Lib.hid (sort_own (c := c') ho hb.size (by omega))
        have HKW := Lib.hid (show KeysRel ((Lib.compact (sortK xs)).map toB) (kwL ws) [] by rw [← hxs]; exact hks)
        have HBX := Lib.hid hb
        have HLE := Lib.hid (sortK_len xs)
        clear hown hb hlen ho hks htk hxs hlx
        go_wp2_with fail
        refine HS1.out.mono ?_
        rintro e w4 ⟨rfl, ho4, hb4⟩
        have HB4 := Lib.hid (HBX.out.trans hb4)
        have hco := compact_own ho4 HB4.out.size (by rw [HLE.out]; omega)
        rw [HLE.out] at hco
        obtain ⟨m, hm⟩ : ∃ m, m = (Lib.compact (sortK xs)).length := ⟨_, rfl⟩
        rw [← hm] at hco
        have HCO := Lib.hid hco
        have HMM := Lib.hid hm
        clear ho4 hb4 hco hm
        go_wp2_with fail
        refine HCO.out.mono ?_
        rintro e w5 ⟨rfl, ho5, hb5⟩
        have HF := Lib.hid (show ImplU true (kwL ws) [] w (.returned (.tuple #[.slice A' m c', .bool true])) w5 from ⟨A', c', (Lib.compact (sortK xs)).map toB, by rw [List.length_map, ← HMM.out], Own.wider ho5 (Nat.le_refl _) (Nat.le_refl _), .inr ⟨rfl, HKW.out⟩, by have := compact_le (sortK xs); rw [List.length_map, HLE.out] at *; omega, HB4.out.trans hb5⟩)
        clear ho5 hb5
        go_wp2
        go_ret2
        exact HF.out
end Go.Proofs.Ytohkpcgekoipbaa
