/-
  The contracts of l5PutRows and PutRows of the model.
-/
import Derived.Test.YtohkpcgekoipbaaPutW2
namespace Go.Proofs.Ytohkpcgekoipbaa
open Go Go.RowKit CM
set_option linter.unusedVariables false

/-- The rows that are kept, the first k looked at. -/
def LiveRel (row : List (ByteArray × ByteArray × Bool)) (w : World) (k : Nat) (v : Value) (wr : World) : Prop :=
  wr.ownsRow w.heap.size 74 3 v (liveW (row.take k)).length (((liveW (row.take k)).map wrCs).flatten) ∧ Below w.heap.size w wr
def LivePost (L : List (ByteArray × ByteArray × Bool)) (w : World) (e : Ending) (w' : World) : Prop :=
  ∃ A c R, e = .returned (.slice A R.length c) ∧ IsL L R ∧ OwnW w' w.heap.size w'.heap.size A c R ∧ Below w.heap.size w w'

set_option maxRecDepth 100000 in
set_option maxHeartbeats 4000000 in
theorem l5PutRows_any (A0 : Option Addr) (n0 c0 : Nat) (rows : List (ByteArray × ByteArray × Bool)) (A1 : Option Addr) (n1 c1 : Nat) (ws : List (ByteArray × ByteArray × Bool)) (B : Nat) (w : World) (hn0 : rows.length = n0) (hn1 : ws.length = n1) (h0 : WritesB w B A0 rows) (h1 : WritesB w B A1 ws) (hB : B ≤ w.heap.size) (hr : rows.length ≤ 1000) (hw : ws.length ≤ 1000) (hup : upB wLt rows = true) :
    Calls Try.prog 44 #[.slice A0 n0 c0, .slice A1 n1 c1] w (LivePost (putRows rows ws) w) := by
  obtain ⟨i0, hi, hz0, hz1, hz2⟩ := info_parts infoWrite
  obtain ⟨XR, hXR⟩ : ∃ XR, XR = (rows.map wrCs).flatten := ⟨_, rfl⟩
  have HRL := Lib.hid (show XR.length = n0 * 3 by rw [hXR, flat_len (wrCs_len _), List.length_map, hn0])
  have HR1 := Lib.hid (show ∀ u ∈ XR, u.oneCell' = true by rw [hXR]; exact wrCs_one _)
  have HRN := Lib.hid (fun W (hW : Below w.heap.size w W) (hp : 0 < n0) => (show ∃ ad, A0 = some ad ∧ ∀ j u, XR[j]? = some u → W.cell? (ad.add j) = some u by rw [hXR]; exact (h0.below (hW.mono hB)).news (by rw [hn0]; exact hp)))
  have HXR := Lib.hid hXR
  have HS := Lib.hid h1
  have hge := Nat.le_of_eq hn1
  have hle := Nat.le_of_eq hn1.symm
  have hn0l : n0 ≤ 1000 := by omega
  have HN0 := Lib.hid hn0
  have HUP := Lib.hid hup
  clear hXR h0 h1 hn0 hn1 hup
  go_enter Try.func44, Try.ntmps44
  go_wp2_with (at_builtin; (refine wpList_app rfl (.tmp 11) (.tmp 12) 40 rfl w.heap.size 74 i0 _ 3 40 Try.underlying40 hi hz0 hz1 hz2 rfl (by decide) _ 0 [] rfl (own_at ?_ (heap_alloc_new _ _)) A0 n0 _ XR rfl HRL.out ?_ HR1.out (by unfold maxLen; omega) (by omega) ?_ ?_; (· exact Nat.le_refl _); (· exact fun hp => HRN.out _ (below1 _ _) hp); (· simp); intro v5 w5 hown5 hgrow5 hat5; have hb5 : Below w.heap.size w w5 := (below1 w (.cells #[] 74)).grown hgrow5 (by simp) (fun k hk => Nat.le_of_eq (Option.some.inj (show some w.heap.size = some k from hk)))))
  have HR0 := Lib.hid (show PutsRel rows ws w 0 v5 w5 from ⟨by
    rw [Nat.zero_add, List.nil_append, HXR.out] at hown5
    simp only [List.take_zero, putWs, List.foldl_nil]
    rw [HN0.out]
    exact hown5, hb5⟩)
  clear hown5 hgrow5 hat5 hb5
  go_loopw [5, 16] (fun v i wr => ∃ k : Nat, k ≤ n1 ∧ i = .int .i64 k ∧ Hid (PutsRel rows ws w k v wr)) (fun _ i _ => n1 - (intOf i).toNat)
  case atStart => exact ⟨0, by omega, rfl, HR0⟩
  case round =>
    clear HR0
    obtain ⟨k, hk, rfl, HRR⟩ := hrel
    have hlk := putWs_len rows (ws.take k)
    rw [List.length_take] at hlk
    have HUK := Lib.hid (putWs_up (ws := ws.take k) HUP.out)
    obtain ⟨A6, c6, rfl, hl6, ho6⟩ := rows_own HRR.out.1
    clear hl6
    by_cases hlt : k < n1
    · obtain ⟨b, off, rfl, hbB, hc⟩ := HS.out.get (by omega)
      obtain ⟨hc0, hc1, hc2⟩ := hc k (by omega)
      have hb := HRR.out.2
      have cc0 := (hb.cell (p := ⟨b, off + k * 3, none⟩) (Nat.lt_of_lt_of_le hbB hB)).trans hc0
      have cc1 := (hb.cell (p := ⟨b, off + k * 3 + 1, none⟩) (Nat.lt_of_lt_of_le hbB hB)).trans hc1
      have cc2 := (hb.cell (p := ⟨b, off + k * 3 + 2, none⟩) (Nat.lt_of_lt_of_le hbB hB)).trans hc2
      have HSU := Lib.hid (putWs_succ (rows := rows) (ws := ws) (k := k) (by omega))
      obtain ⟨y, hy⟩ : ∃ y, y = ws[k]'(by omega) := ⟨_, rfl⟩
      rw [← hy] at cc0 cc1 cc2 HSU
      obtain ⟨s1, s2, u⟩ := y
      simp only at cc0 cc1 cc2 HSU
      have hbx := below1 wr (.cells #[.string s1, .string s2, .bool u] 74)
      have HSW := Lib.hid (l5PutW_any A6 (putWs rows (ws.take k)).length c6 (putWs rows (ws.take k)) s1 s2 u w.heap.size (wr.alloc (.cells #[.string s1, .string s2, .bool u] 74)) rfl (row_below HRR.out.1 hbx) (Nat.le_trans hb.size hbx.size) (by omega) HUK.out)
      have HBX := Lib.hid (hb.trans (hbx.mono hb.size))
      clear hc hc0 hc1 hc2 hy hb hbx ho6 hlk
      go_wp2_with fail
      refine HSW.out.mono ?_
      rintro e w6 ⟨v', rfl, hown, hb6⟩
      have HN2 := Lib.hid (show PutsRel rows ws w (k + 1) v' w6 from ⟨by
        rw [HSU.out]
        exact ⟨hown.1, hown.2.imp id fun ⟨g, cap, cur, h1, h2, h3⟩ => ⟨g, cap, cur, h1, Nat.le_trans HBX.out.size h2, h3⟩⟩, HBX.out.trans (hb6.mono HBX.out.size)⟩)
      clear hown hb6
      go_wp2
      go_roundw
      case rel => exact ⟨k + 1, by omega, by go_num, HN2⟩
      case measure => simp [intOf]; omega
    · have htk : ws.take k = ws := List.take_of_length_le (by omega)
      rw [htk] at HRR HUK ho6 hlk
      rw [htk]
      obtain ⟨row, hrow⟩ : ∃ row, row = putWs rows ws := ⟨_, rfl⟩
      have HRE := Lib.hid (show putRows rows ws = liveW row by rw [hrow]; rfl)
      have hro := HRR.out.1
      have hb := HRR.out.2
      rw [htk, ← hrow] at hro
      rw [← hrow] at ho6 hlk ⊢
      have hrl : row.length ≤ 2000 := by omega
      have HB6 := Lib.hid hb
      have HO6 := Lib.hid ho6
      clear hro hrow htk HRR HUK ho6 hlk hb
      go_wp2
      go_loopw [8, 26] (fun v i wi => ∃ k : Nat, k ≤ row.length ∧ i = .int .i64 k ∧ Hid (LiveRel row wr k v wi)) (fun _ i _ => row.length - (intOf i).toNat)
      case atStart => exact ⟨0, by omega, rfl, ⟨by simpa [liveW] using World.ownsRow_nil _ _ _ _, Below.refl _ _⟩⟩
      case round =>
        rename World => wi
        obtain ⟨q, hq, rfl, HL⟩ := hrel
        have hll : (liveW (row.take q)).length ≤ 2000 := by have := liveW_len (row.take q); rw [List.length_take] at this; omega
        by_cases hql : q < row.length
        · obtain ⟨b, off, rfl, hbB, hc⟩ := WritesB.get (show WritesB wr wr.heap.size A6 row from HO6.out.row) (by omega)
          obtain ⟨hc0, hc1, hc2⟩ := hc q hql
          have hb := HL.out.2
          have cc0 := (hb.cell (p := ⟨b, off + q * 3, none⟩) hbB).trans hc0
          have cc1 := (hb.cell (p := ⟨b, off + q * 3 + 1, none⟩) hbB).trans hc1
          have cc2 := (hb.cell (p := ⟨b, off + q * 3 + 2, none⟩) hbB).trans hc2
          have HSU := Lib.hid (liveW_succ (l := row) (k := q) hql)
          obtain ⟨y, hy⟩ : ∃ y, y = row[q]'hql := ⟨_, rfl⟩
          rw [← hy] at cc0 cc1 cc2 HSU
          obtain ⟨s1, s2, u⟩ := y
          simp only at cc0 cc1 cc2 HSU
          have hbx := below1 wi (.cells #[.string s1, .string s2, .bool u] 74)
          have hbx2 := below2 wi (.cells #[.string s1, .string s2, .bool u] 74) (.cells #[.string s1, .string s2, .bool u] 74)
          have hnw := alloc_snd wi (.cells #[.string s1, .string s2, .bool u] 74) (.cells #[.string s1, .string s2, .bool u] 74)
          have hown := row_below HL.out.1 hbx
          have HBX := Lib.hid hbx
          have hbs := hb.size
          clear hc hc0 hc1 hc2 hy hb
          cases u with
          | true =>
            have HN2 := Lib.hid (show LiveRel row wr (q + 1) u8 (wi.alloc (.cells #[.string s1, .string s2, .bool true] 74)) from ⟨by rw [HSU.out]; simpa using hown, HL.out.2.trans (HBX.out.mono HL.out.2.size)⟩)
            clear hbx hbx2 hnw hown HL
            go_wp2
            go_roundw
            case rel => exact ⟨q + 1, by omega, by go_num, HN2⟩
            case measure => simp [intOf]; omega
          | false =>
            have HLB := Lib.hid HL.out.2
            clear hbx2 hbx
            go_wp2_with (at_builtin; refine wpList_append_own _ rfl (.tmp 33) (.tmp 35) 40 rfl wr.heap.size 74 i0 _ 3 40 Try.underlying40 hi hz0 hz1 hz2 rfl (by decide) _ _ _ rfl (hown.alloc _) ⟨_, 0, none⟩ 1 1 [.string s1, .string s2, .bool false] rfl rfl (World.news_of_block (fr := (0, 0)) hnw) (by simp [Value.oneCell']) (by unfold maxLen; omega) (by omega) (by simp; omega) ?_; intro v3 w3 hown3 hg3 hat3)
            have HN2 := Lib.hid (show LiveRel row wr (q + 1) v3 w3 from ⟨by
              rw [HSU.out, List.length_append, List.map_append, List.flatten_append]
              exact hown3, below_app (HLB.out.trans (HBX.out.mono HLB.out.size)) (Nat.le_refl _) hown hg3⟩)
            clear hown3 hg3 hat3 hnw hown
            go_roundw
            case rel => exact ⟨q + 1, by omega, by go_num, HN2⟩
            case measure => simp [intOf]; omega
        · have htq : row.take q = row := List.take_of_length_le (by omega)
          have hl1 := HL.out.1
          have hl2 := HL.out.2
          rw [htq] at hl1
          obtain ⟨A9, c9, rfl, hl9, ho9⟩ := rows_own hl1
          have HF := Lib.hid (show LivePost (putRows rows ws) w (.returned (.slice A9 (liveW row).length c9)) wi from ⟨A9, c9, liveW row, rfl, HRE.out.symm, OwnW.wider ho9 HB6.out.size (Nat.le_refl _), HB6.out.trans (hl2.mono HB6.out.size)⟩)
          clear hl1 hl2 hl9 ho9 htq HL hll
          go_wp2
          go_ret
          exact HF.out

set_option maxRecDepth 100000 in
set_option maxHeartbeats 2000000 in
theorem specPutRows_any (A0 : Option Addr) (n0 c0 : Nat) (rows : List (ByteArray × ByteArray × Bool)) (A1 : Option Addr) (n1 c1 : Nat) (ws : List (ByteArray × ByteArray × Bool)) (B : Nat) (w : World) (hn0 : rows.length = n0) (hn1 : ws.length = n1) (h0 : WritesB w B A0 rows) (h1 : WritesB w B A1 ws) (hB : B ≤ w.heap.size) (hm0 : WSmall rows) (hm1 : WSmall ws) :
    Calls Try.prog 21 #[.slice A0 n0 c0, .slice A1 n1 c1] w (SpecPR (prB rows ws) (prL rows ws) w) := by
  have HG := Lib.hid (l5Rows_any A0 n0 c0 rows B w hn0 h0 hB hm0)
  have HW := Lib.hid (fun W (hW : Below w.heap.size w W) => l3Writes_any A1 n1 c1 ws B W hn1 (h1.below (hW.mono hB)) (Nat.le_trans hB hW.size) hm1)
  have HP := Lib.hid (fun (hr : rows.length ≤ 1000) (hw : ws.length ≤ 1000) (hu : upB wLt rows = true) W (hW : Below w.heap.size w W) => l5PutRows_any A0 n0 c0 rows A1 n1 c1 ws B W hn0 hn1 (h0.below (hW.mono hB)) (h1.below (hW.mono hB)) (Nat.le_trans hB hW.size) hr hw hu)
  have HNO := Lib.hid (fun (hp : prB rows ws = false) W (hW : Below w.heap.size w W) => (show SpecPR (prB rows ws) (prL rows ws) w (.returned (.tuple #[.slice none 0 0, .bool false])) W from ⟨none, 0, [], by rw [hp]; rfl, .inl rfl, by unfold prL; rw [hp]; rfl, hW⟩))
  have HPB := Lib.hid (show prB rows ws = (rowsB rows && (wB ws && rowsB (putRows rows ws))) from rfl)
  have HPL := Lib.hid (show prL rows ws = if prB rows ws then putRows rows ws else [] from rfl)
  have HM0 := Lib.hid hm0
  have HM1 := Lib.hid hm1
  obtain ⟨P, hP⟩ : ∃ P, P = prB rows ws := ⟨_, rfl⟩
  obtain ⟨L, hL⟩ : ∃ L, L = prL rows ws := ⟨_, rfl⟩
  rw [← hP, ← hL] at HNO ⊢
  rw [← hP] at HPB HPL
  rw [← hL] at HPL
  clear h0 h1 hn0 hn1 hm0 hm1 hP hL
  cases hr : rowsB rows with
  | false =>
    rw [hr] at HG HPB
    have HF := Lib.hid (HNO.out (by rw [HPB.out]; rfl))
    clear hr
    go_enter Try.func21, Try.ntmps21
    go_wp2_with fail
    refine HG.out.mono ?_
    rintro e w1 ⟨rfl, hb1⟩
    have HF1 := Lib.hid (HF.out w1 hb1)
    clear hb1
    go_wp2
    go_ret2
    exact HF1.out
  | true =>
    have HR := Lib.hid hr
    rw [hr] at HG HPB
    clear hr
    cases hw : wB ws with
    | false =>
      rw [hw] at HW HPB
      have HF := Lib.hid (HNO.out (by rw [HPB.out]; rfl))
      clear hw
      go_enter Try.func21, Try.ntmps21
      go_wp2_with fail
      refine HG.out.mono ?_
      rintro e w1 ⟨rfl, hb1⟩
      have HB1 := Lib.hid hb1
      clear hb1
      go_wp2_with fail
      refine (HW.out _ HB1.out).mono ?_
      rintro e w2 ⟨rfl, hb2⟩
      have HF1 := Lib.hid (HF.out w2 (HB1.out.trans (hb2.mono HB1.out.size)))
      clear hb2
      go_wp2
      go_ret2
      exact HF1.out
    | true =>
      have hlen0 := wB_len (rowsB_parts HR.out).2
      have hlen1 := wB_len hw
      have HPQ := Lib.hid (HP.out (by omega) (by omega) hlen0.2)
      have HSM := Lib.hid (show WSmall (putRows rows ws) from wsmall_live (wsmall_put HM0.out HM1.out (by omega) (by omega)))
      rw [hw] at HW HPB
      rw [Bool.true_and, Bool.true_and] at HPB
      clear hw hlen0 hlen1
      go_enter Try.func21, Try.ntmps21
      go_wp2_with fail
      refine HG.out.mono ?_
      rintro e w1 ⟨rfl, hb1⟩
      have HB1 := Lib.hid hb1
      clear hb1
      go_wp2_with fail
      refine (HW.out _ HB1.out).mono ?_
      rintro e w2 ⟨rfl, hb2⟩
      have HB2 := Lib.hid (HB1.out.trans (hb2.mono HB1.out.size))
      clear hb2
      go_wp2_with fail
      refine (HPQ.out _ HB2.out).mono ?_
      rintro e w3 ⟨A3, c3, R3, rfl, hR3, ho3, hb3⟩
      have HB3 := Lib.hid (HB2.out.trans (hb3.mono HB2.out.size))
      have HE3 := Lib.hid (show R3 = putRows rows ws from hR3)
      have HGR := Lib.hid (l5Rows_any A3 R3.length c3 R3 w3.heap.size w3 rfl ho3.writes (Nat.le_refl _) (by rw [HE3.out]; exact HSM.out))
      clear hR3 ho3 hb3
      cases hfin : rowsB (putRows rows ws) with
      | false =>
        rw [hfin] at HPB
        have HF := Lib.hid (HNO.out HPB.out)
        rw [← HE3.out] at hfin
        rw [hfin] at HGR
        clear hfin
        go_wp2_with fail
        refine HGR.out.mono ?_
        rintro e w8 ⟨rfl, hb8⟩
        have HF1 := Lib.hid (HF.out w8 (HB3.out.trans (hb8.mono HB3.out.size)))
        clear hb8
        go_wp2
        go_ret2
        exact HF1.out
      | true =>
        rw [hfin] at HPB
        have HLE := Lib.hid (show L = putRows rows ws by rw [HPL.out, HPB.out, if_pos rfl])
        rw [← HE3.out] at hfin
        rw [hfin] at HGR
        clear hfin
        go_wp2_with fail
        refine HGR.out.mono ?_
        rintro e w8 ⟨rfl, hb8⟩
        have HB8 := Lib.hid (HB3.out.trans (hb8.mono HB3.out.size))
        clear hb8
        go_wp2_with fail
        refine (HPQ.out _ HB8.out).mono ?_
        rintro e w9 ⟨A9, c9, R9, rfl, hR9, ho9, hb9⟩
        have HF1 := Lib.hid (show SpecPR P L w (.returned (.tuple #[.slice A9 R9.length c9, .bool true])) w9 from ⟨A9, c9, R9, by rw [HPB.out], ho9.writes, by rw [HLE.out]; exact hR9, HB8.out.trans (hb9.mono HB8.out.size)⟩)
        clear hR9 ho9 hb9
        go_wp2
        go_ret2
        exact HF1.out
end Go.Proofs.Ytohkpcgekoipbaa
