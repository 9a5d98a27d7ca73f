/-
  Contracts for what two logs share: sameEntry, sharedBy, isPrefix of the program.
-/
import Derived.Test.YtkhndofplebcaaaGrGd
import Derived.Test.YtkhndofplebcaaaSameR
namespace Go.Proofs.Ytkhndofplebcaaa.Gr
open Go.RowKit CM
set_option linter.unusedVariables false
set_option linter.unusedSimpArgs false

def sameE (a b : ED) : Bool := a.tm == b.tm && sameB a.k b.k a.t b.t a.x b.x a.l b.l a.y b.y a.rs b.rs a.ws b.ws
/-- How many entries two logs begin with alike. -/
def shN : List ED → List ED → Nat
  | a :: l, b :: m => if sameE a b = true then 1 + shN l m else 0
  | _, _ => 0
theorem shN_le : ∀ (a b : List ED), shN a b ≤ a.length ∧ shN a b ≤ b.length
  | [], _ => by simp [shN]
  | _ :: _, [] => by simp [shN]
  | a :: l, b :: m => by
    have := shN_le l m
    simp only [shN, List.length_cons]
    split <;> omega
theorem shN_step {a b : List ED} {k : Nat} (h1 : k < a.length) (h2 : k < b.length) : shN (a.drop k) (b.drop k) = if sameE a[k] b[k] = true then 1 + shN (a.drop (k + 1)) (b.drop (k + 1)) else 0 := by
  rw [List.drop_eq_getElem_cons h1, List.drop_eq_getElem_cons h2]; rfl
theorem shN_end {a b : List ED} {k : Nat} (h : a.length ≤ k ∨ b.length ≤ k) : shN (a.drop k) (b.drop k) = 0 := by
  rcases h with h | h
  · rw [List.drop_of_length_le h]; cases b.drop k <;> rfl
  · rw [List.drop_of_length_le h]; cases a.drop k <;> rfl

set_option maxRecDepth 100000 in
set_option maxHeartbeats 2000000 in
theorem sameEntry_any (tm kk tt xx ll : Int) (yy : Bool) (Ar : Option Addr) (nr cr : Nat) (rs : List ByteArray) (Aw : Option Addr) (nw cw : Nat) (ws : List (ByteArray × ByteArray × Bool)) (tm2 kk2 tt2 xx2 ll2 : Int) (yy2 : Bool) (Ar2 : Option Addr) (nr2 cr2 : Nat) (rs2 : List ByteArray) (Aw2 : Option Addr) (nw2 cw2 : Nat) (ws2 : List (ByteArray × ByteArray × Bool)) (B : Nat) (w : World)
    (hnr : rs.length = nr) (hr : StrsB w B Ar rs) (hnw : ws.length = nw) (hw : WritesB w B Aw ws) (hnr2 : rs2.length = nr2) (hr2 : StrsB w B Ar2 rs2) (hnw2 : ws2.length = nw2) (hw2 : WritesB w B Aw2 ws2) (hB : B ≤ w.heap.size) (l1 : nr ≤ 1048576) (l2 : nw ≤ 1048576) (l3 : nr2 ≤ 1048576) (l4 : nw2 ≤ 1048576) (g : Bool) (hg : g = sameE ⟨tm, kk, tt, xx, ll, yy, rs, ws⟩ ⟨tm2, kk2, tt2, xx2, ll2, yy2, rs2, ws2⟩) :
    Calls Try.prog 175 #[.agg #[.int .i64 tm, .int .i64 kk, .int .i64 tt, .int .i64 xx, .int .i64 ll, .slice Ar nr cr, .slice Aw nw cw, .bool yy], .agg #[.int .i64 tm2, .int .i64 kk2, .int .i64 tt2, .int .i64 xx2, .int .i64 ll2, .slice Ar2 nr2 cr2, .slice Aw2 nw2 cw2, .bool yy2]] w fun e w' => e = .returned (.bool g) ∧ Below w.heap.size w w' := by
  have hb2 := below2 w (.cells #[.int .i64 tm, .int .i64 kk, .int .i64 tt, .int .i64 xx, .int .i64 ll, .slice Ar nr cr, .slice Aw nw cw, .bool yy] 35) (.cells #[.int .i64 tm2, .int .i64 kk2, .int .i64 tt2, .int .i64 xx2, .int .i64 ll2, .slice Ar2 nr2 cr2, .slice Aw2 nw2 cw2, .bool yy2] 35)
  obtain ⟨s, hs⟩ : ∃ s, s = sameB kk kk2 tt tt2 xx xx2 ll ll2 yy yy2 rs rs2 ws ws2 := ⟨_, rfl⟩
  have HC := Lib.hid (implSameRec_any kk kk2 tt tt2 xx xx2 ll ll2 yy yy2 Ar Ar2 Aw Aw2 nr nr2 nw nw2 cr cr2 cw cw2 rs rs2 ws ws2 B _ hnr hnr2 hnw hnw2 (hr.below (hb2.mono hB)) (hr2.below (hb2.mono hB)) (hw.below (hb2.mono hB)) (hw2.below (hb2.mono hB)) (Nat.le_trans hB hb2.size) l1 l3 l2 l4)
  rw [← hs] at HC
  unfold sameE at hg
  simp only at hg
  rw [← hs] at hg
  have HB := Lib.hid hb2
  clear hs hnr hr hnw hw hnr2 hr2 hnw2 hw2 hb2
  cases h1 : (tm == tm2) with
  | false =>
    rw [h1, Bool.false_and] at hg
    subst hg
    go_enter Try.func175, Try.ntmps175
    go_wp2
    go_ret
    exact ⟨rfl, HB.out⟩
  | true =>
    rw [h1, Bool.true_and] at hg
    subst hg
    go_enter Try.func175, Try.ntmps175
    go_wp2_with fail
    (with_reducible refine HC.out.mono ?_)
    rintro e w1 ⟨rfl, ha1⟩
    have HB1 := Lib.hid (HB.out.trans (ha1.mono HB.out.size))
    clear ha1
    go_wp2
    go_ret
    exact ⟨rfl, HB1.out⟩

set_option maxRecDepth 100000 in
set_option maxHeartbeats 8000000 in
theorem sharedBy_any (A1 : Option Addr) (n1 c1 : Nat) (es1 : List EH) (A2 : Option Addr) (n2 c2 : Nat) (es2 : List EH) (B : Nat) (w : World) (hn1 : es1.length = n1) (h1 : RowsB KE w B A1 es1) (hm1 : LgSmall (es1.map EH.d)) (hn2 : es2.length = n2) (h2 : RowsB KE w B A2 es2) (hm2 : LgSmall (es2.map EH.d)) (hB : B ≤ w.heap.size) (tot : Nat) (htot : tot = shN (es1.map EH.d) (es2.map EH.d)) :
    Calls Try.prog 157 #[.slice A1 n1 c1, .slice A2 n2 c2] w fun e w' => e = .returned (.int .i64 (tot : Int)) ∧ Below w.heap.size w w' := by
  obtain ⟨hl1, hms1⟩ := hm1
  obtain ⟨hl2, hms2⟩ := hm2
  rw [List.length_map] at hl1 hl2
  rw [hn1] at hl1
  rw [hn2] at hl2
  have HN1 := Lib.hid hn1
  have HN2 := Lib.hid hn2
  have HM1 := Lib.hid hms1
  have HM2 := Lib.hid hms2
  have HS := Lib.hid h1
  have HS' := Lib.hid h2
  have HR0 := Lib.hid (show tot = 0 + shN ((es1.map EH.d).drop 0) ((es2.map EH.d).drop 0) by rw [htot]; simp)
  clear hn1 h1 hms1 hn2 h2 hms2 htot
  go_enter Try.func157, Try.ntmps157
  go_wp2
  go_loopw [5] (fun i wr => ∃ k : Nat, k ≤ n1 ∧ k ≤ n2 ∧ i = .int .i64 k ∧ Hid (tot = k + shN ((es1.map EH.d).drop k) ((es2.map EH.d).drop k)) ∧ Below w.heap.size w wr) (fun i _ => n1 - (intOf i).toNat)
  case atStart => exact ⟨0, by omega, by omega, rfl, HR0, Below.refl _ _⟩
  case round =>
    clear HR0
    obtain ⟨k, hk1, hk2, rfl, HR, hb⟩ := hrel
    by_cases hlt : k < n1 ∧ k < n2
    · obtain ⟨hlt1, hlt2⟩ := hlt
      obtain ⟨b, off, rfl, hbB, hc⟩ := en_get HS.out (by have := HN1.out; omega)
      obtain ⟨b', off', rfl, hbB', hc'⟩ := en_get HS'.out (by have := HN2.out; omega)
      have hkh1 : k < es1.length := by have := HN1.out; omega
      have hkh2 : k < es2.length := by have := HN2.out; omega
      obtain ⟨hc0, hc1, hc2, hc3, hc4, hc5, hc6, hc7⟩ := hc k hkh1
      obtain ⟨hd0, hd1, hd2, hd3, hd4, hd5, hd6, hd7⟩ := hc' k hkh2
      have c0 := (hb.cell (p := ⟨b, off + k * 8, none⟩) (Nat.lt_of_lt_of_le hbB hB)).trans hc0
      have c1 := (hb.cell (p := ⟨b, off + k * 8 + 1, none⟩) (Nat.lt_of_lt_of_le hbB hB)).trans hc1
      have c2 := (hb.cell (p := ⟨b, off + k * 8 + 2, none⟩) (Nat.lt_of_lt_of_le hbB hB)).trans hc2
      have c3 := (hb.cell (p := ⟨b, off + k * 8 + 3, none⟩) (Nat.lt_of_lt_of_le hbB hB)).trans hc3
      have c4 := (hb.cell (p := ⟨b, off + k * 8 + 4, none⟩) (Nat.lt_of_lt_of_le hbB hB)).trans hc4
      have c5 := (hb.cell (p := ⟨b, off + k * 8 + 5, none⟩) (Nat.lt_of_lt_of_le hbB hB)).trans hc5
      have c6 := (hb.cell (p := ⟨b, off + k * 8 + 6, none⟩) (Nat.lt_of_lt_of_le hbB hB)).trans hc6
      have c7 := (hb.cell (p := ⟨b, off + k * 8 + 7, none⟩) (Nat.lt_of_lt_of_le hbB hB)).trans hc7
      have d0 := (hb.cell (p := ⟨b', off' + k * 8, none⟩) (Nat.lt_of_lt_of_le hbB' hB)).trans hd0
      have d1 := (hb.cell (p := ⟨b', off' + k * 8 + 1, none⟩) (Nat.lt_of_lt_of_le hbB' hB)).trans hd1
      have d2 := (hb.cell (p := ⟨b', off' + k * 8 + 2, none⟩) (Nat.lt_of_lt_of_le hbB' hB)).trans hd2
      have d3 := (hb.cell (p := ⟨b', off' + k * 8 + 3, none⟩) (Nat.lt_of_lt_of_le hbB' hB)).trans hd3
      have d4 := (hb.cell (p := ⟨b', off' + k * 8 + 4, none⟩) (Nat.lt_of_lt_of_le hbB' hB)).trans hd4
      have d5 := (hb.cell (p := ⟨b', off' + k * 8 + 5, none⟩) (Nat.lt_of_lt_of_le hbB' hB)).trans hd5
      have d6 := (hb.cell (p := ⟨b', off' + k * 8 + 6, none⟩) (Nat.lt_of_lt_of_le hbB' hB)).trans hd6
      have d7 := (hb.cell (p := ⟨b', off' + k * 8 + 7, none⟩) (Nat.lt_of_lt_of_le hbB' hB)).trans hd7
      have HRS := Lib.hid (HR.out.trans (by rw [shN_step (show k < (es1.map EH.d).length by simpa using hkh1) (show k < (es2.map EH.d).length by simpa using hkh2), d_at hkh1, d_at hkh2]))
      have hv := KE.rd_below (HS.out.at k hkh1) (hb.mono hB)
      have hv' := KE.rd_below (HS'.out.at k hkh2) (hb.mono hB)
      have hsm := HM1.out (EH.d (es1[k]'hkh1)) (List.mem_map.2 ⟨_, List.getElem_mem hkh1, rfl⟩)
      have hsm2 := HM2.out (EH.d (es2[k]'hkh2)) (List.mem_map.2 ⟨_, List.getElem_mem hkh2, rfl⟩)
      obtain ⟨x, hx⟩ : ∃ x, x = es1[k]'hkh1 := ⟨_, rfl⟩
      obtain ⟨y, hy⟩ : ∃ y, y = es2[k]'hkh2 := ⟨_, rfl⟩
      rw [← hx] at c0 c1 c2 c3 c4 c5 c6 c7 hv hsm HRS
      rw [← hy] at d0 d1 d2 d3 d4 d5 d6 d7 hv' hsm2 HRS
      obtain ⟨⟨tm, kk, tt, xx, ll, yy, rs, ws⟩, Ar, cr, Aw, cw, elo, em, ehi⟩ := x
      obtain ⟨⟨tm2, kk2, tt2, xx2, ll2, yy2, rs2, ws2⟩, Ar2, cr2, Aw2, cw2, elo2, em2, ehi2⟩ := y
      simp only at c0 c1 c2 c3 c4 c5 c6 c7 d0 d1 d2 d3 d4 d5 d6 d7 hv hv' hsm hsm2 HRS
      have hk0 : (0 : Int) ≤ (k : Int) := by omega
      have hkn : (k : Int) < (n1 : Int) := by omega
      have hkn2 : (k : Int) < (n2 : Int) := by omega
      have hkm : (k : Int) < min (n1 : Int) (n2 : Int) := by omega
      have hkd : decide ((k : Int) < min (n1 : Int) (n2 : Int)) = true := decide_eq_true hkm
      have hb1 : b < wr.heap.size := Nat.lt_of_lt_of_le hbB (Nat.le_trans hB hb.size)
      have hb2 : b' < wr.heap.size := Nat.lt_of_lt_of_le hbB' (Nat.le_trans hB hb.size)
      have HB := Lib.hid hb
      have HBr := Nat.le_trans hB hb.size
      obtain ⟨g, hg⟩ : ∃ g, g = sameE ⟨tm, kk, tt, xx, ll, yy, rs, ws⟩ ⟨tm2, kk2, tt2, xx2, ll2, yy2, rs2, ws2⟩ := ⟨_, rfl⟩
      rw [← hg] at HRS
      have HCall := Lib.hid (sameEntry_any tm kk tt xx ll yy Ar rs.length cr rs Aw ws.length cw ws tm2 kk2 tt2 xx2 ll2 yy2 Ar2 rs2.length cr2 rs2 Aw2 ws2.length cw2 ws2 B wr.drew rfl hv.1 rfl hv.2 rfl hv'.1 rfl hv'.2 HBr hsm.1.1 hsm.2.1 hsm2.1.1 hsm2.2.1 g hg)
      obtain ⟨nr, hvnr⟩ : ∃ nr, nr = rs.length := ⟨_, rfl⟩
      rw [← hvnr] at c5 HCall
      obtain ⟨nw, hvnw⟩ : ∃ nw, nw = ws.length := ⟨_, rfl⟩
      rw [← hvnw] at c6 HCall
      obtain ⟨nr2, hvnr2⟩ : ∃ nr2, nr2 = rs2.length := ⟨_, rfl⟩
      rw [← hvnr2] at d5 HCall
      obtain ⟨nw2, hvnw2⟩ : ∃ nw2, nw2 = ws2.length := ⟨_, rfl⟩
      rw [← hvnw2] at d6 HCall
      clear hc hc' hc0 hd0 hc1 hd1 hc2 hd2 hc3 hd3 hc4 hd4 hc5 hd5 hc6 hd6 hc7 hd7 hx hy hb hv hv' hsm hsm2 HBr hvnr hvnw hvnr2 hvnw2 hg HR
      go_wp2_with fail
      go_region_held3 (fun w' => w'.cell? ⟨b, off + k * 8, none⟩ = some (.int .i64 tm) ∧ w'.cell? ⟨b, off + k * 8 + 1, none⟩ = some (.int .i64 kk) ∧ w'.cell? ⟨b, off + k * 8 + 2, none⟩ = some (.int .i64 tt) ∧ w'.cell? ⟨b, off + k * 8 + 3, none⟩ = some (.int .i64 xx) ∧ w'.cell? ⟨b, off + k * 8 + 4, none⟩ = some (.int .i64 ll) ∧ w'.cell? ⟨b, off + k * 8 + 5, none⟩ = some (.slice Ar nr cr) ∧ w'.cell? ⟨b, off + k * 8 + 6, none⟩ = some (.slice Aw nw cw) ∧ w'.cell? ⟨b, off + k * 8 + 7, none⟩ = some (.bool yy) ∧ w'.cell? ⟨b', off' + k * 8, none⟩ = some (.int .i64 tm2) ∧ w'.cell? ⟨b', off' + k * 8 + 1, none⟩ = some (.int .i64 kk2) ∧ w'.cell? ⟨b', off' + k * 8 + 2, none⟩ = some (.int .i64 tt2) ∧ w'.cell? ⟨b', off' + k * 8 + 3, none⟩ = some (.int .i64 xx2) ∧ w'.cell? ⟨b', off' + k * 8 + 4, none⟩ = some (.int .i64 ll2) ∧ w'.cell? ⟨b', off' + k * 8 + 5, none⟩ = some (.slice Ar2 nr2 cr2) ∧ w'.cell? ⟨b', off' + k * 8 + 6, none⟩ = some (.slice Aw2 nw2 cw2) ∧ w'.cell? ⟨b', off' + k * 8 + 7, none⟩ = some (.bool yy2))
        (first | exact ⟨c0, c1, c2, c3, c4, c5, c6, c7, d0, d1, d2, d3, d4, d5, d6, d7⟩ | (go_split_ands; exact ⟨kept2 hb4 c0 hb1, kept2 hb4 c1 hb1, kept2 hb4 c2 hb1, kept2 hb4 c3 hb1, kept2 hb4 c4 hb1, kept2 hb4 c5 hb1, kept2 hb4 c6 hb1, kept2 hb4 c7 hb1, kept2 hb4 d0 hb2, kept2 hb4 d1 hb2, kept2 hb4 d2 hb2, kept2 hb4 d3 hb2, kept2 hb4 d4 hb2, kept2 hb4 d5 hb2, kept2 hb4 d6 hb2, kept2 hb4 d7 hb2⟩))
        ((go_at_call 175; (with_reducible refine HCall.out.mono ?_); rintro e w4 ⟨rfl, hb4⟩))
      have HBB := Lib.hid (Below.trans (b := wr.drew) HB.out.drew (hb4.mono HB.out.size))
      clear hb4 c0 c1 c2 c3 c4 c5 c6 c7 d0 d1 d2 d3 d4 d5 d6 d7
      cases g with
      | true =>
        go_wp2
        go_roundw
        case rel => exact ⟨k + 1, by omega, by omega, by go_num, Lib.hid (by have h9 := HRS.out; simp at h9; omega), HBB.out⟩
        case measure => simp [intOf]; omega
      | false =>
        have htk : tot = k := by have h9 := HRS.out; simpa using h9
        subst htk
        go_wp2
        go_ret
        exact ⟨rfl, HBB.out⟩
    · have hkm : ¬ (k : Int) < min (n1 : Int) (n2 : Int) := by omega
      have hkd : decide ((k : Int) < min (n1 : Int) (n2 : Int)) = false := decide_eq_false hkm
      have htk : tot = k := by
        have h9 := HR.out
        rw [shN_end (by rw [List.length_map, List.length_map, HN1.out, HN2.out]; omega)] at h9
        simpa using h9
      subst htk
      have HBB := Lib.hid hb
      clear HR hb
      go_wp2_with fail
      go_region
      all_goals
        go_wp2
        go_ret
        exact ⟨rfl, HBB.out.drew⟩

end Go.Proofs.Ytkhndofplebcaaa.Gr
