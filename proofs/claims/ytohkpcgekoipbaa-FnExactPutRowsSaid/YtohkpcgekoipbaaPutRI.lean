/-
  The contract of PutRows of the program.
-/
import Derived.Test.YtohkpcgekoipbaaPutD
namespace Go.Proofs.Ytohkpcgekoipbaa
open Go Go.RowKit CM
set_option linter.unusedVariables false

/-- Whether rows can be put, and what comes of it. -/
def prB (rows ws : List (ByteArray × ByteArray × Bool)) : Bool := rowsB rows && (wB ws && rowsB (putRows rows ws))
def prL (rows ws : List (ByteArray × ByteArray × Bool)) : List (ByteArray × ByteArray × Bool) := if prB rows ws then putRows rows ws else []
def IsL (L R : List (ByteArray × ByteArray × Bool)) : Prop := R = L
theorem IsL.unique {L R R' : List (ByteArray × ByteArray × Bool)} (h : IsL L R) (h' : IsL L R') : R = R' := Eq.trans h (Eq.symm h')
def SpecPR (v : Bool) (L : List (ByteArray × ByteArray × Bool)) (w : World) (e : Ending) (w' : World) : Prop :=
  ∃ A c R, e = .returned (.tuple #[.slice A R.length c, .bool v]) ∧ WritesB w' w'.heap.size A R ∧ IsL L R ∧ Below w.heap.size w w'
def ImplPR (v : Bool) (L : List (ByteArray × ByteArray × Bool)) (w : World) (e : Ending) (w' : World) : Prop :=
  ∃ A c R, e = .returned (.tuple #[.slice A R.length c, .bool v]) ∧ OwnW w' w.heap.size w'.heap.size A c R ∧ IsL L R ∧ R.length ≤ 1000 ∧ Below w.heap.size w w'
theorem rows_own {w : World} {lo n : Nat} {v : Value} {ws : List (ByteArray × ByteArray × Bool)} (h : w.ownsRow lo 74 3 v n (ws.map wrCs).flatten) : ∃ A c, v = .slice A ws.length c ∧ ws.length = n ∧ Own w lo w.heap.size 74 3 A c (ws.map wrCs) := by
  obtain ⟨A, c, hv, hn, ho⟩ := Own.ofRow h (wrCs_len _) (by decide) (hi := w.heap.size) (fun k hk => (h.lt k hk).2)
  rw [List.length_map] at hv hn
  exact ⟨A, c, hv, hn, ho⟩
theorem rowsB_parts {l : List (ByteArray × ByteArray × Bool)} (h : rowsB l = true) : noneGone l = true ∧ wB l = true := by
  unfold rowsB at h
  simpa using h
def PutsRel (rows ws : List (ByteArray × ByteArray × Bool)) (w : World) (k : Nat) (v : Value) (wr : World) : Prop :=
  wr.ownsRow w.heap.size 74 3 v (putWs rows (ws.take k)).length (((putWs rows (ws.take k)).map wrCs).flatten) ∧ Below w.heap.size w wr

set_option maxRecDepth 100000 in
set_option maxHeartbeats 2000000 in
theorem implPutRows_any (A0 : Option Addr) (n0 c0 : Nat) (rows : List (ByteArray × ByteArray × Bool)) (A1 : Option Addr) (n1 c1 : Nat) (ws : List (ByteArray × ByteArray × Bool)) (B : Nat) (w : World) (hn0 : rows.length = n0) (hn1 : ws.length = n1) (h0 : WritesB w B A0 rows) (h1 : WritesB w B A1 ws) (hB : B ≤ w.heap.size) (hm0 : WSmall rows) (hm1 : WSmall ws) :
    Calls Try.prog 23 #[.slice A0 n0 c0, .slice A1 n1 c1] w (ImplPR (prB rows ws) (prL rows ws) w) := by
  have HG := Lib.hid (goodRows_any A0 n0 c0 rows B w hn0 h0 hB hm0)
  have HW := Lib.hid (fun W (hW : Below w.heap.size w W) => goodWrites_any A1 n1 c1 ws B W hn1 (h1.below (hW.mono hB)) (Nat.le_trans hB hW.size) hm1)
  have hnl : n0 ≤ 1048576 := by rw [← hn0]; exact hm0.1
  have HC := Lib.hid (fun W (hW : Below w.heap.size w W) => copyWrites_any A0 n0 c0 rows B W hn0 (h0.below (hW.mono hB)) (Nat.le_trans hB hW.size) hnl)
  have HNO := Lib.hid (fun (hp : prB rows ws = false) W (hW : Below w.heap.size w W) => (show ImplPR (prB rows ws) (prL rows ws) w (.returned (.tuple #[.slice none 0 0, .bool false])) W from ⟨none, 0, [], by rw [hp]; rfl, .inl ⟨rfl, rfl, rfl⟩, by unfold prL; rw [hp]; rfl, by simp, hW⟩))
  have HPB := Lib.hid (show prB rows ws = (rowsB rows && (wB ws && rowsB (putRows rows ws))) from rfl)
  have HPL := Lib.hid (show prL rows ws = if prB rows ws then putRows rows ws else [] from rfl)
  have HS := Lib.hid h1
  have HN1 := Lib.hid hn1
  have HM0 := Lib.hid hm0
  have HM1 := Lib.hid hm1
  have HN0 := Lib.hid hn0
  have hge := Nat.le_of_eq hn1
  have hle := Nat.le_of_eq hn1.symm
  obtain ⟨P, hP⟩ : ∃ P, P = prB rows ws := ⟨_, rfl⟩
  obtain ⟨L, hL⟩ : ∃ L, L = prL rows ws := ⟨_, rfl⟩
  rw [← hP, ← hL] at HNO ⊢
  rw [← hP] at HPB HPL
  rw [← hL] at HPL
  clear h0 h1 hn0 hn1 hm0 hm1 hP hL
  cases hr : rowsB rows with
  | false =>
    rw [hr] at HG HPB
    have HF := Lib.hid (HNO.out (by rw [HPB.out]; rfl))
    clear hr
    go_enter Try.func23, Try.ntmps23
    go_wp2_with fail
    refine HG.out.mono ?_
    rintro e w1 ⟨rfl, hb1⟩
    have HF1 := Lib.hid (HF.out w1 hb1)
    clear hb1
    go_wp2
    go_ret2
    exact HF1.out
  | true =>
    have HR := Lib.hid hr
    rw [hr] at HG HPB
    clear hr
    cases hw : wB ws with
    | false =>
      rw [hw] at HW HPB
      have HF := Lib.hid (HNO.out (by rw [HPB.out]; rfl))
      clear hw
      go_enter Try.func23, Try.ntmps23
      go_wp2_with fail
      refine HG.out.mono ?_
      rintro e w1 ⟨rfl, hb1⟩
      have HB1 := Lib.hid hb1
      clear hb1
      go_wp2_with fail
      refine (HW.out _ HB1.out).mono ?_
      rintro e w2 ⟨rfl, hb2⟩
      have HF1 := Lib.hid (HF.out w2 (HB1.out.trans (hb2.mono HB1.out.size)))
      clear hb2
      go_wp2
      go_ret2
      exact HF1.out
    | true =>
      have hlen0 := wB_len (rowsB_parts HR.out).2
      have hlen1 := wB_len hw
      have HUP := Lib.hid hlen0.2
      have hr24 : rows.length ≤ 24 := hlen0.1
      have hw24 : ws.length ≤ 24 := hlen1.1
      rw [hw] at HW HPB
      rw [Bool.true_and, Bool.true_and] at HPB
      clear hw hlen0 hlen1
      go_enter Try.func23, Try.ntmps23
      go_wp2_with fail
      refine HG.out.mono ?_
      rintro e w1 ⟨rfl, hb1⟩
      have HB1 := Lib.hid hb1
      clear hb1
      go_wp2_with fail
      refine (HW.out _ HB1.out).mono ?_
      rintro e w2 ⟨rfl, hb2⟩
      have HB2 := Lib.hid (HB1.out.trans (hb2.mono HB1.out.size))
      clear hb2
      go_wp2_with fail
      refine (HC.out _ HB2.out).mono ?_
      rintro e w3 ⟨g3, rfl, hg3, ho3, hb3⟩
      have HR0 := Lib.hid (show PutsRel rows ws w 0 (.slice (some ⟨g3, 0, none⟩) n0 n0) w3 from ⟨by
        have := (OwnW.wider ho3 HB2.out.size (Nat.le_refl _)).toRow (wrCs_len _) (by decide)
        rw [List.length_map, HN0.out] at this
        simp only [List.take_zero, putWs, List.foldl_nil]
        rw [HN0.out]
        exact this, HB2.out.trans (hb3.mono HB2.out.size)⟩)
      clear hg3 ho3 hb3
      go_wp2
      go_loopw [6, 21] (fun v i wr => ∃ k : Nat, k ≤ n1 ∧ i = .int .i64 k ∧ Hid (PutsRel rows ws w k v wr)) (fun _ i _ => n1 - (intOf i).toNat)
      case atStart => exact ⟨0, by omega, rfl, HR0⟩
      case round =>
        clear HR0
        obtain ⟨k, hk, rfl, HRR⟩ := hrel
        have hlk := putWs_len rows (ws.take k)
        rw [List.length_take] at hlk
        have HUK := Lib.hid (putWs_up (ws := ws.take k) HUP.out)
        obtain ⟨A6, c6, rfl, _, ho6⟩ := rows_own HRR.out.1
        by_cases hlt : k < n1
        · obtain ⟨b, off, rfl, hbB, hc⟩ := HS.out.get (by omega)
          obtain ⟨hc0, hc1, hc2⟩ := hc k (by omega)
          have hb := HRR.out.2
          have cc0 := (hb.cell (p := ⟨b, off + k * 3, none⟩) (Nat.lt_of_lt_of_le hbB hB)).trans hc0
          have cc1 := (hb.cell (p := ⟨b, off + k * 3 + 1, none⟩) (Nat.lt_of_lt_of_le hbB hB)).trans hc1
          have cc2 := (hb.cell (p := ⟨b, off + k * 3 + 2, none⟩) (Nat.lt_of_lt_of_le hbB hB)).trans hc2
          have HSU := Lib.hid (putWs_succ (rows := rows) (ws := ws) (k := k) (by omega))
          obtain ⟨y, hy⟩ : ∃ y, y = ws[k]'(by omega) := ⟨_, rfl⟩
          rw [← hy] at cc0 cc1 cc2 HSU
          obtain ⟨s1, s2, u⟩ := y
          simp only at cc0 cc1 cc2 HSU
          have hbx := below1 wr (.cells #[.string s1, .string s2, .bool u] 74)
          have HSW := Lib.hid (setWrite_any A6 (putWs rows (ws.take k)).length c6 (putWs rows (ws.take k)) s1 s2 u w.heap.size (wr.alloc (.cells #[.string s1, .string s2, .bool u] 74)) rfl (row_below HRR.out.1 hbx) (Nat.le_trans hb.size hbx.size) (by omega) HUK.out)
          have HBX := Lib.hid (hb.trans (hbx.mono hb.size))
          clear hc hc0 hc1 hc2 hy hb hbx ho6 hlk
          go_wp2_with fail
          refine HSW.out.mono ?_
          rintro e w5 ⟨v', rfl, hown, hb5⟩
          have HN2 := Lib.hid (show PutsRel rows ws w (k + 1) v' w5 from ⟨by rw [HSU.out]; exact hown, HBX.out.trans hb5⟩)
          clear hown hb5
          go_wp2
          go_roundw
          case rel => exact ⟨k + 1, by omega, by go_num, HN2⟩
          case measure => simp [intOf]; omega
        · have htk : ws.take k = ws := List.take_of_length_le (by omega)
          rw [htk] at HRR HUK ho6 hlk
          obtain ⟨row, hrow⟩ : ∃ row, row = putWs rows ws := ⟨_, rfl⟩
          have HRE := Lib.hid (show putRows rows ws = liveW row by rw [hrow]; rfl)
          have HSM := Lib.hid (show WSmall (liveW row) by rw [hrow]; exact wsmall_live (wsmall_put HM0.out HM1.out (by omega) (by omega)))
          have hb := HRR.out.2
          rw [htk]
          rw [← hrow] at ho6 hlk ⊢
          have hro := HRR.out.1
          rw [htk, ← hrow] at hro
          have HDG := Lib.hid (deleteGone_any A6 row.length c6 row w.heap.size wr rfl hro hb.size (by omega))
          have HB6 := Lib.hid hb
          have hll := liveW_len row
          clear hro hb ho6 hrow htk HRR
          go_wp2_with fail
          refine HDG.out.mono ?_
          rintro e w7 ⟨m7, hm7, rfl, hown7, hb7⟩
          obtain ⟨A7, c7, hv7, hl7, ho7⟩ := rows_own hown7
          injection hv7 with e1 e2 e3
          clear e2
          subst e1 e3
          have HM7 := Lib.hid hm7
          have hm70 : m7 ≤ row.length := by rw [hm7]; exact hll
          have HO7 := Lib.hid ho7
          have HB7 := Lib.hid (HB6.out.trans hb7)
          have HGR := Lib.hid (goodRows_any A6 m7 c6 (liveW row) w7.heap.size w7 hm7.symm ho7.row (Nat.le_refl _) HSM.out)
          clear hown7 hl7 ho7 hb7 hm7
          cases hfin : rowsB (putRows rows ws) with
          | false =>
            rw [hfin] at HPB
            have HF := Lib.hid (HNO.out HPB.out)
            rw [HRE.out] at hfin
            rw [hfin] at HGR
            clear hfin
            go_wp2_with fail
            refine HGR.out.mono ?_
            rintro e w8 ⟨rfl, hb8⟩
            have HF1 := Lib.hid (HF.out w8 (HB7.out.trans (hb8.mono HB7.out.size)))
            clear hb8
            go_wp2
            go_ret2
            exact HF1.out
          | true =>
            rw [hfin] at HPB
            rw [HRE.out] at hfin
            rw [hfin] at HGR
            have HLE := Lib.hid (show L = liveW row by rw [HPL.out, HPB.out, if_pos rfl, HRE.out])
            clear hfin
            go_wp2_with fail
            refine HGR.out.mono ?_
            rintro e w8 ⟨rfl, hb8⟩
            have HF1 := Lib.hid (show ImplPR P L w (.returned (.tuple #[.slice A6 m7 c6, .bool true])) w8 from ⟨A6, c6, liveW row, by rw [HPB.out, HM7.out], Own.wider (HO7.out.below hb8) (Nat.le_refl _) hb8.size, HLE.out.symm, by omega, HB7.out.trans (hb8.mono HB7.out.size)⟩)
            clear hb8
            go_wp2
            go_ret2
            exact HF1.out
end Go.Proofs.Ytohkpcgekoipbaa
