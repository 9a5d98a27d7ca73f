/-
  The checks of a group: as data, of the program, of the model.
-/
import Derived.Test.YtkhndofplebcaaaGrMem
import Derived.Test.YtkhndofplebcaaaGoodR
import Derived.Test.YtkhndofplebcaaaGoodL
import Derived.Test.YtkhndofplebcaaaBel
namespace Go.Proofs.Ytkhndofplebcaaa.Gr
open Go.RowKit CM
set_option linter.unusedVariables false
set_option linter.unusedSimpArgs false

def erB (d : ED) : Bool := recB d.k d.t d.x d.l d.y d.rs d.ws
def lgB (term : Int) : Int → List ED → Bool
  | _, [] => true
  | b, d :: t => inB d.tm b term && (erB d && lgB term d.tm t)
def logB (term : Int) (l : List ED) : Bool := decide (l.length ≤ 60) && lgB term 1 l
def repB (term : Int) (r : RD) : Bool := logB term r.log && (decide (0 ≤ r.su) && decide (r.su ≤ (r.log.length : Int)))
def repsB (term : Int) : List RD → Bool
  | [] => true
  | r :: t => repB term r && repsB term t
def upAt (rs : List RD) (i : Nat) : Bool := match rs[i]? with | some r => r.up | none => false
def hasB (n : Nat) (r : Int) : Bool := decide (0 ≤ r) && decide (r < (n : Int))
def isUpB (rs : List RD) (r : Int) : Bool := hasB rs.length r && upAt rs r.toNat
def leadB (term lead : Int) (rs : List RD) : Bool := decide (lead = -1) || (isUpB rs lead && decide (0 < term))
def szB (n : Nat) : Bool := decide (n = 3) || decide (n = 5)
def grpB (term lead : Int) (rs : List RD) : Bool := szB rs.length && (decide (0 ≤ term) && (decide (term ≤ 200) && (leadB term lead rs && repsB term rs)))
theorem lgB_step {term b : Int} {l : List ED} {k : Nat} (h : k < l.length) : lgB term b (l.drop k) = (inB l[k].tm b term && (erB l[k] && lgB term l[k].tm (l.drop (k + 1)))) := by
  rw [List.drop_eq_getElem_cons h]; rfl
theorem lgB_end {term b : Int} {l : List ED} {k : Nat} (h : l.length ≤ k) : lgB term b (l.drop k) = true := by
  rw [List.drop_eq_nil_of_le h]; rfl
theorem repsB_step {term : Int} {l : List RD} {k : Nat} (h : k < l.length) : repsB term (l.drop k) = (repB term l[k] && repsB term (l.drop (k + 1))) := by
  rw [List.drop_eq_getElem_cons h]; rfl
theorem repsB_end {term : Int} {l : List RD} {k : Nat} (h : l.length ≤ k) : repsB term (l.drop k) = true := by
  rw [List.drop_eq_nil_of_le h]; rfl
theorem repsB_mem {term : Int} {l : List RD} (h : repsB term l = true) : ∀ r ∈ l, repB term r = true := by
  induction l with
  | nil => simp
  | cons a t ih =>
    simp only [repsB, Bool.and_eq_true] at h
    intro r hr
    rcases List.mem_cons.1 hr with rfl | hr
    · exact h.1
    · exact ih h.2 r hr
theorem upAt_lt {rs : List RD} {i : Nat} (h : i < rs.length) : upAt rs i = rs[i].up := by simp [upAt, List.getElem?_eq_getElem h]
theorem d_at {es : List EH} {k : Nat} (h : k < es.length) : (es.map EH.d)[k]'(by simpa using h) = es[k].d := by simp
theorem r_at {rs : List RH} {k : Nat} (h : k < rs.length) : (rs.map rdat)[k]'(by simpa using h) = rdat rs[k] := by simp
theorem upAt_map {rs : List RH} {k : Nat} (h : k < rs.length) : upAt (rs.map rdat) k = rs[k].up := by rw [upAt_lt (by simpa using h), r_at h]; rfl
/-- The model's order of the same checks. -/
theorem grpB_model (term lead : Int) (rs : List RD) : grpB term lead rs = (szB rs.length && (inB term 0 200 && (inB lead (-1) ((rs.length : Int) - 1) && (repsB term rs && (decide (lead < 0) || (decide (0 < term) && upAt rs lead.toNat)))))) := by
  unfold grpB leadB isUpB hasB inB
  cases szB rs.length <;> simp only [Bool.false_and, Bool.true_and]
  cases repsB term rs <;> simp only [Bool.and_false, Bool.false_and, Bool.true_and, Bool.and_true]
  cases upAt rs lead.toNat <;> simp only [Bool.and_false, Bool.false_and, Bool.or_false, Bool.and_true] <;> rw [Bool.eq_iff_iff] <;> simp <;> omega

theorem isSize_any (n : Nat) (w : World) (hn : n ≤ 1048576) :
    Calls Try.prog 105 #[.int .i64 (n : Int)] w fun e w' => e = .returned (.bool (szB n)) ∧ w = w' := by
  by_cases h3 : n = 3
  · subst h3
    go_enter Try.func105, Try.ntmps105
    go_wp2
    go_ret
    exact ⟨rfl, rfl⟩
  · by_cases h5 : n = 5
    · subst h5
      go_enter Try.func105, Try.ntmps105
      go_wp2
      go_ret
      exact ⟨rfl, rfl⟩
    · have e3 : ((n : Int) == 3) = false := by simp; omega
      have e5 : ((n : Int) == 5) = false := by simp; omega
      have HR := Lib.hid (ret_bool (show false = szB n by simp [szB, h3, h5]))
      go_enter Try.func105, Try.ntmps105
      go_wp2
      go_ret
      exact ⟨HR.out, rfl⟩

set_option maxRecDepth 100000 in
set_option maxHeartbeats 4000000 in
theorem goodLog_any (A : Option Addr) (n c : Nat) (term : Int) (es : List EH) (B : Nat) (w : World) (hn : es.length = n) (h : RowsB KE w B A es) (hB : B ≤ w.heap.size) (hm : LgSmall (es.map EH.d)) :
    Calls Try.prog 86 #[.slice A n c, .int .i64 term] w fun e w' => e = .returned (.bool (logB term (es.map EH.d))) ∧ Below w.heap.size w w' := by
  obtain ⟨hl, hms⟩ := hm
  have HN := Lib.hid hn
  have hge := Nat.le_of_eq hn
  have hle := Nat.le_of_eq hn.symm
  have hnl : n ≤ 1048576 := by simp at hl; omega
  have HS := Lib.hid h
  have HM := Lib.hid hms
  obtain ⟨r, hr⟩ : ∃ r, r = logB term (es.map EH.d) := ⟨_, rfl⟩
  rw [← hr]
  by_cases h60 : n ≤ 60
  · have HR0 := Lib.hid (show r = lgB term 1 ((es.map EH.d).drop 0) by rw [hr, logB, List.drop_zero, List.length_map, hn]; simp [h60])
    clear hn h hms hl hr
    go_enter Try.func86, Try.ntmps86
    go_wp2_with fail
    go_loopw [5, 13] (fun v j wr => ∃ (k : Nat) (b0 : Int), k ≤ n ∧ j = .int .i64 k ∧ v = .int .i64 b0 ∧ Hid (r = lgB term b0 ((es.map EH.d).drop k)) ∧ Below w.heap.size w wr) (fun _ j _ => n - (intOf j).toNat)
    case atStart => exact ⟨0, 1, by omega, rfl, rfl, HR0, Below.refl _ _⟩
    case round =>
      clear HR0
      obtain ⟨k, b0, hk, rfl, rfl, HR, hb⟩ := hrel
      by_cases hlt : k < n
      · obtain ⟨b, off, rfl, hbB, hc⟩ := en_get HS.out (by omega)
        obtain ⟨hc0, hc1, hc2, hc3, hc4, hc5, hc6, hc7⟩ := hc k (by omega)
        have c0 := (hb.cell (p := ⟨b, off + k * 8, none⟩) (Nat.lt_of_lt_of_le hbB hB)).trans hc0
        have c1 := (hb.cell (p := ⟨b, off + k * 8 + 1, none⟩) (Nat.lt_of_lt_of_le hbB hB)).trans hc1
        have c2 := (hb.cell (p := ⟨b, off + k * 8 + 2, none⟩) (Nat.lt_of_lt_of_le hbB hB)).trans hc2
        have c3 := (hb.cell (p := ⟨b, off + k * 8 + 3, none⟩) (Nat.lt_of_lt_of_le hbB hB)).trans hc3
        have c4 := (hb.cell (p := ⟨b, off + k * 8 + 4, none⟩) (Nat.lt_of_lt_of_le hbB hB)).trans hc4
        have c5 := (hb.cell (p := ⟨b, off + k * 8 + 5, none⟩) (Nat.lt_of_lt_of_le hbB hB)).trans hc5
        have c6 := (hb.cell (p := ⟨b, off + k * 8 + 6, none⟩) (Nat.lt_of_lt_of_le hbB hB)).trans hc6
        have c7 := (hb.cell (p := ⟨b, off + k * 8 + 7, none⟩) (Nat.lt_of_lt_of_le hbB hB)).trans hc7
        have HRS := Lib.hid (HR.out.trans (lgB_step (show k < (es.map EH.d).length by simp; omega)))
        have HBr := Nat.le_trans hB hb.size
        have hrd := KE.rd_below (HS.out.at k (by omega)) (hb.mono hB)
        have hsm := HM.out (es[k]'(by omega)).d (List.mem_map.2 ⟨_, List.getElem_mem (show k < es.length by omega), rfl⟩)
        rw [d_at (show k < es.length by omega)] at HRS
        obtain ⟨y, hy⟩ : ∃ y, y = es[k]'(by omega) := ⟨_, rfl⟩
        rw [← hy] at c0 c1 c2 c3 c4 c5 c6 c7 hrd hsm HRS
        obtain ⟨⟨tm, kk, tt, xx, ll, yy, rs, ws⟩, Ar, cr, Aw, cw, elo, em, ehi⟩ := y
        simp only [erB] at c0 c1 c2 c3 c4 c5 c6 c7 hrd hsm HRS
        have hbox := below1 wr (.cells #[.int .i64 tm, .int .i64 kk, .int .i64 tt, .int .i64 xx, .int .i64 ll, .slice Ar rs.length cr, .slice Aw ws.length cw, .bool yy] 35)
        have hkb := heap_alloc_new wr (.cells #[.int .i64 tm, .int .i64 kk, .int .i64 tt, .int .i64 xx, .int .i64 ll, .slice Ar rs.length cr, .slice Aw ws.length cw, .bool yy] 35)
        have HG := Lib.hid (fun W (hW : Below wr.heap.size wr W) => implGoodRec_any kk tt xx ll yy Ar Aw rs.length ws.length cr cw rs ws B W rfl rfl (hrd.1.below (hW.mono HBr)) (hrd.2.below (hW.mono HBr)) (Nat.le_trans HBr hW.size) hsm.1 hsm.2)
        obtain ⟨g, hg⟩ : ∃ g, g = recB kk tt xx ll yy rs ws := ⟨_, rfl⟩
        rw [← hg] at HG HRS
        obtain ⟨nr, hvnr⟩ : ∃ nr, nr = rs.length := ⟨_, rfl⟩
        rw [← hvnr] at c5 HG hbox hkb
        obtain ⟨nw, hvnw⟩ : ∃ nw, nw = ws.length := ⟨_, rfl⟩
        rw [← hvnw] at c6 HG hbox hkb
        have HB := Lib.hid hb
        have HBX := Lib.hid hbox
        have HKB := Lib.hid hkb
        have hk0 : (0 : Int) ≤ (k : Int) := by omega
        have hkn : (k : Int) < (n : Int) := by omega
        clear hc hc0 hc1 hc2 hc3 hc4 hc5 hc6 hc7 hy hrd hsm hg hvnr hvnw hb hbox hkb HR HBr
        have HBB := Lib.hid (HB.out.trans (HBX.out.mono HB.out.size))
        by_cases h1 : b0 ≤ tm
        · by_cases h2 : tm ≤ term
          · have e1 : decide (tm < b0) = false := by simp; omega
            have e2 : decide (term < tm) = false := by simp; omega
            rw [inB_mk ⟨h1, h2⟩, Bool.true_and] at HRS
            cases g with
            | false =>
              have HNO := Lib.hid (ret_bool (show false = r by rw [HRS.out]; rfl))
              clear HRS
              go_wp2_with fail
              refine (HG.out _ HBX.out).mono ?_
              rintro e w1 ⟨rfl, ha1⟩
              have HB1 := Lib.hid (HBB.out.trans (ha1.mono HBB.out.size))
              clear ha1
              go_wp2
              go_ret
              exact ⟨HNO.out, HB1.out⟩
            | true =>
              rw [Bool.true_and] at HRS
              go_wp2_with fail
              refine (HG.out _ HBX.out).mono ?_
              rintro e w1 ⟨rfl, ha1⟩
              have hk1 := (ha1.block wr.heap.size (lt_blk HKB.out)).trans HKB.out
              have y0 := cell_of_row _ _ 0 _ 35 (0, 0) hk1
              have HB1 := Lib.hid (HBB.out.trans (ha1.mono HBB.out.size))
              clear ha1 hk1 c0 c1 c2 c3 c4 c5 c6 c7
              go_wp2
              go_roundw
              case rel => exact ⟨k + 1, tm, by omega, by go_num, rfl, HRS, HB1.out⟩
              case measure => simp [intOf]; omega
          · have e1 : decide (tm < b0) = false := by simp; omega
            have e2 : decide (term < tm) = true := by simp; omega
            have HNO := Lib.hid (ret_bool (show false = r by rw [HRS.out, inB_not (by omega)]; rfl))
            clear HRS
            go_wp2
            go_ret
            exact ⟨HNO.out, HBB.out⟩
        · have e1 : decide (tm < b0) = true := by simp; omega
          have HNO := Lib.hid (ret_bool (show false = r by rw [HRS.out, inB_not (by omega)]; rfl))
          clear HRS
          go_wp2
          go_ret
          exact ⟨HNO.out, HBB.out⟩
      · have HYES := Lib.hid (ret_bool (show true = r by rw [HR.out, lgB_end (by simp; omega)]))
        clear HR
        go_wp2
        go_ret
        exact ⟨HYES.out, hb⟩
  · have HNO := Lib.hid (ret_bool (show false = r by rw [hr, logB, List.length_map, hn]; simp [h60]))
    clear hn h hms hl hr
    have e60 : (60 : Int) < (n : Int) := by omega
    go_enter Try.func86, Try.ntmps86
    go_wp2
    go_ret
    exact ⟨HNO.out, Below.refl _ _⟩

set_option maxHeartbeats 1000000 in
theorem hasRep_any (A : Option Addr) (n c : Nat) (tm ld r : Int) (w : World) (hn : n ≤ 1048576) :
    Calls Try.prog 154 #[.agg #[.slice A n c, .int .i64 tm, .int .i64 ld], .int .i64 r] w fun e w' => e = .returned (.bool (hasB n r)) ∧ Below w.heap.size w w' := by
  have hb1 := below1 w (.cells #[.slice A n c, .int .i64 tm, .int .i64 ld] 45)
  by_cases h0 : 0 ≤ r
  · have e0 : decide (0 ≤ r) = true := by simp [h0]
    obtain ⟨g, hg⟩ : ∃ g, g = decide (r < (n : Int)) := ⟨_, rfl⟩
    have HR := Lib.hid (ret_bool (show g = hasB n r by rw [hg, hasB, e0, Bool.true_and]))
    have hgg := hg.symm
    clear hg
    go_enter Try.func154, Try.ntmps154
    cases g
    all_goals
      go_wp2
      go_ret
      exact ⟨HR.out, hb1⟩
  · have e0 : decide (0 ≤ r) = false := by simp [h0]
    have HR := Lib.hid (ret_bool (show false = hasB n r by rw [hasB, e0, Bool.false_and]))
    go_enter Try.func154, Try.ntmps154
    go_wp2
    go_ret
    exact ⟨HR.out, hb1⟩
set_option maxRecDepth 100000 in
set_option maxHeartbeats 2000000 in
theorem isUp_any (A : Option Addr) (n c : Nat) (tm ld r : Int) (hs : List RH) (B : Nat) (w : World) (hn : hs.length = n) (h : RowsB KR w B A hs) (hB : B ≤ w.heap.size) (hl : n ≤ 1048576) :
    Calls Try.prog 122 #[.agg #[.slice A n c, .int .i64 tm, .int .i64 ld], .int .i64 r] w fun e w' => e = .returned (.bool (isUpB (hs.map rdat) r)) ∧ Below w.heap.size w w' := by
  have hb1 := below1 w (.cells #[.slice A n c, .int .i64 tm, .int .i64 ld] 45)
  have hk1 := heap_alloc_new w (.cells #[.slice A n c, .int .i64 tm, .int .i64 ld] 45)
  have HH := Lib.hid (fun W => hasRep_any A n c tm ld r W hl)
  have HB1 := Lib.hid hb1
  by_cases h1 : hasB n r = true
  · rw [h1] at HH
    have h2 : 0 ≤ r ∧ r < (n : Int) := by simpa [hasB] using h1
    obtain ⟨k, hk⟩ : ∃ k : Nat, r = (k : Int) := ⟨r.toNat, by omega⟩
    have hkn : k < hs.length := by omega
    obtain ⟨b, off, rfl, hbB, hc⟩ := rp_get h (by omega)
    obtain ⟨hc0, hc1, hc2⟩ := hc k hkn
    have HR := Lib.hid (ret_bool (show hs[k].up = isUpB (hs.map rdat) r by rw [isUpB, List.length_map, hn, h1, Bool.true_and, hk, Int.toNat_natCast, upAt_map hkn]))
    obtain ⟨g, hg⟩ : ∃ g, g = hs[k].up := ⟨_, rfl⟩
    rw [← hg] at hc0 HR
    have hbw := Nat.lt_of_lt_of_le hbB hB
    have h3 : (k : Int) < (n : Int) := by omega
    have h4 : (0 : Int) ≤ (k : Int) := by omega
    rw [hk] at HH
    rw [hk] at HR
    subst hk
    have HK := Lib.hid hk1
    clear hb1 hk1 hc hc1 hc2 hg h1 h2 h hn hkn hB
    go_enter Try.func122, Try.ntmps122
    go_wp2_with fail
    refine (HH.out _).mono ?_
    rintro e w1 ⟨rfl, ha1⟩
    have hk1 := (ha1.block w.heap.size (lt_blk HK.out)).trans HK.out
    have y0 := cell_of_row _ _ 0 _ 45 (0, 0) hk1
    have hb2 := HB1.out.trans (ha1.mono HB1.out.size)
    have c0 := (hb2.cell (p := ⟨b, off + k * 3, none⟩) hbw).trans hc0
    have HB2 := Lib.hid hb2
    clear ha1 hk1 hb2 hc0
    cases g
    all_goals
      go_wp2
      go_ret
      exact ⟨HR.out, HB2.out⟩
  · have h1 : hasB n r = false := by simpa using h1
    rw [h1] at HH
    have HR := Lib.hid (ret_bool (show false = isUpB (hs.map rdat) r by rw [isUpB, List.length_map, hn, h1, Bool.false_and]))
    clear hb1 hk1 h1 h hn
    go_enter Try.func122, Try.ntmps122
    go_wp2_with fail
    refine (HH.out _).mono ?_
    rintro e w1 ⟨rfl, ha1⟩
    have HB2 := Lib.hid (HB1.out.trans (ha1.mono HB1.out.size))
    clear ha1
    go_wp2
    go_ret
    exact ⟨HR.out, HB2.out⟩
theorem hasLeader_any (A : Option Addr) (n c : Nat) (tm ld : Int) (w : World) :
    Calls Try.prog 116 #[.agg #[.slice A n c, .int .i64 tm, .int .i64 ld]] w fun e w' => e = .returned (.bool (ld != -1)) ∧ Below w.heap.size w w' := by
  have hb1 := below1 w (.cells #[.slice A n c, .int .i64 tm, .int .i64 ld] 45)
  go_enter Try.func116, Try.ntmps116
  go_wp2
  go_ret
  exact ⟨rfl, hb1⟩
set_option maxRecDepth 100000 in
set_option maxHeartbeats 2000000 in
theorem goodLead_any (A : Option Addr) (n c : Nat) (tm ld : Int) (hs : List RH) (B : Nat) (w : World) (hn : hs.length = n) (h : RowsB KR w B A hs) (hB : B ≤ w.heap.size) (hl : n ≤ 1048576) :
    Calls Try.prog 148 #[.agg #[.slice A n c, .int .i64 tm, .int .i64 ld]] w fun e w' => e = .returned (.bool (leadB tm ld (hs.map rdat))) ∧ Below w.heap.size w w' := by
  have hb1 := below1 w (.cells #[.slice A n c, .int .i64 tm, .int .i64 ld] 45)
  have hk1 := heap_alloc_new w (.cells #[.slice A n c, .int .i64 tm, .int .i64 ld] 45)
  have HU := Lib.hid (fun W (hW : Below w.heap.size w W) => isUp_any A n c tm ld ld hs B W hn (h.below (hW.mono hB)) (Nat.le_trans hB hW.size) hl)
  have HB1 := Lib.hid hb1
  have HK := Lib.hid hk1
  obtain ⟨u, hu⟩ : ∃ u, u = isUpB (hs.map rdat) ld := ⟨_, rfl⟩
  rw [← hu] at HU
  obtain ⟨r, hr⟩ : ∃ r, r = leadB tm ld (hs.map rdat) := ⟨_, rfl⟩
  rw [← hr]
  rw [leadB, ← hu] at hr
  have HR0 := Lib.hid hr
  clear hb1 hk1 hn h hB hu hr
  by_cases h1 : ld = -1
  · have e1 : (ld == -1) = true := by simp [h1]
    have HR := Lib.hid (ret_bool (show true = r by rw [HR0.out, h1]; rfl))
    clear HR0 h1
    go_enter Try.func148, Try.ntmps148
    go_wp2
    go_ret
    exact ⟨HR.out, HB1.out⟩
  · have e1 : (ld == -1) = false := by simp [h1]
    have HR1 := Lib.hid (show r = (u && decide (0 < tm)) by rw [HR0.out]; simp [h1])
    clear HR0 h1
    go_enter Try.func148, Try.ntmps148
    go_wp2_with fail
    refine (HU.out _ HB1.out).mono ?_
    rintro e w1 ⟨rfl, ha1⟩
    have hk1 := (ha1.block w.heap.size (lt_blk HK.out)).trans HK.out
    have y1 := cell_of_row _ _ 1 _ 45 (0, 0) hk1
    have HB2 := Lib.hid (HB1.out.trans (ha1.mono HB1.out.size))
    obtain ⟨g, hg⟩ : ∃ g, g = decide (0 < tm) := ⟨_, rfl⟩
    rw [← hg] at HR1
    have hg2 := hg.symm
    clear ha1 hk1 hg
    cases u <;> cases g
    all_goals
      have HR := Lib.hid (ret_bool HR1.out.symm)
      clear HR1
      go_wp2
      go_ret
      exact ⟨HR.out, HB2.out⟩

set_option maxRecDepth 100000 in
set_option maxHeartbeats 4000000 in
theorem goodReps_any (A : Option Addr) (n c : Nat) (tm ld : Int) (hs : List RH) (B : Nat) (w : World) (hn : hs.length = n) (h : RowsB KR w B A hs) (hB : B ≤ w.heap.size) (hm : RpSmall (hs.map rdat)) :
    Calls Try.prog 149 #[.agg #[.slice A n c, .int .i64 tm, .int .i64 ld]] w fun e w' => e = .returned (.bool (repsB tm (hs.map rdat))) ∧ Below w.heap.size w w' := by
  obtain ⟨hl, hms⟩ := hm
  have HN := Lib.hid hn
  have hge := Nat.le_of_eq hn
  have hle := Nat.le_of_eq hn.symm
  have hnl : n ≤ 1048576 := by simp at hl; omega
  have HS := Lib.hid h
  have HM := Lib.hid hms
  obtain ⟨r, hr⟩ : ∃ r, r = repsB tm (hs.map rdat) := ⟨_, rfl⟩
  rw [← hr]
  have HR0 := Lib.hid (show r = repsB tm ((hs.map rdat).drop 0) from hr)
  have hb0 := below1 w (.cells #[.slice A n c, .int .i64 tm, .int .i64 ld] 45)
  have hk0 := heap_alloc_new w (.cells #[.slice A n c, .int .i64 tm, .int .i64 ld] 45)
  have HK0 := Lib.hid hk0
  have HB0 := Lib.hid hb0
  clear hn h hms hl hr hb0 hk0
  go_enter Try.func149, Try.ntmps149
  go_wp2_with fail
  go_loopw [8] (fun j wr => ∃ k : Nat, k ≤ n ∧ j = .int .i64 k ∧ Hid (r = repsB tm ((hs.map rdat).drop k)) ∧ Hid (Below w.heap.size w wr) ∧ Hid (wr.heap[w.heap.size]? = some (.cells #[.slice A n c, .int .i64 tm, .int .i64 ld] 45 (0, 0)))) (fun j _ => n - (intOf j).toNat)
  case atStart => exact ⟨0, by omega, rfl, HR0, HB0, HK0⟩
  case round =>
    clear HR0 HB0 HK0
    obtain ⟨k, hk, rfl, HR, HB, HK⟩ := hrel
    by_cases hlt : k < n
    · obtain ⟨b, off, rfl, hbB, hc⟩ := rp_get HS.out (by omega)
      obtain ⟨hc0, hc1, hc2⟩ := hc k (by omega)
      have hb := HB.out
      have c0 := (hb.cell (p := ⟨b, off + k * 3, none⟩) (Nat.lt_of_lt_of_le hbB hB)).trans hc0
      have c1 := (hb.cell (p := ⟨b, off + k * 3 + 1, none⟩) (Nat.lt_of_lt_of_le hbB hB)).trans hc1
      have c2 := (hb.cell (p := ⟨b, off + k * 3 + 2, none⟩) (Nat.lt_of_lt_of_le hbB hB)).trans hc2
      have HRS := Lib.hid (HR.out.trans (repsB_step (show k < (hs.map rdat).length by simp; omega)))
      have HBr := Nat.le_trans hB hb.size
      have hrd := KR.rd_below (HS.out.at k (by omega)) (hb.mono hB)
      have hsm := HM.out (rdat (hs[k]'(by omega))) (List.mem_map.2 ⟨_, List.getElem_mem (show k < hs.length by omega), rfl⟩)
      rw [r_at (show k < hs.length by omega)] at HRS
      obtain ⟨y, hy⟩ : ∃ y, y = hs[k]'(by omega) := ⟨_, rfl⟩
      rw [← hy] at c0 c1 c2 hrd hsm HRS
      obtain ⟨up, su, Al, cl, es, rlo, rhi⟩ := y
      simp only [rdat, repB, List.length_map] at c0 c1 c2 hrd hsm HRS
      have hbox := below1 wr (.cells #[.bool up, .slice Al es.length cl, .int .i64 su] 91)
      have hkb := heap_alloc_new wr (.cells #[.bool up, .slice Al es.length cl, .int .i64 su] 91)
      have HG := Lib.hid (fun W (hW : Below wr.heap.size wr W) => goodLog_any Al es.length cl tm es B W rfl (RowsB.below (K := KE) hrd (hW.mono HBr)) (Nat.le_trans HBr hW.size) hsm)
      obtain ⟨g, hg⟩ : ∃ g, g = logB tm (es.map EH.d) := ⟨_, rfl⟩
      rw [← hg] at HG HRS
      obtain ⟨nl, hvnl⟩ : ∃ nl, nl = es.length := ⟨_, rfl⟩
      rw [← hvnl] at c1 HG hbox hkb HRS
      have hkg := (hbox.block w.heap.size (lt_blk HK.out)).trans HK.out
      have g1 := cell_of_row _ _ 1 _ 45 (0, 0) HK.out
      have hgl := lt_blk HK.out
      have HKG := Lib.hid hkg
      have HBX := Lib.hid hbox
      have HKB := Lib.hid hkb
      have hk0 : (0 : Int) ≤ (k : Int) := by omega
      have hkn : (k : Int) < (n : Int) := by omega
      have hnl1 : nl ≤ 1048576 := by rw [hvnl]; have := hsm.1; simpa using this
      clear hc hc0 hc1 hc2 hy hrd hsm hg hvnl hbox hkb HR HBr hb hkg
      have HBB := Lib.hid (HB.out.trans (HBX.out.mono HB.out.size))
      cases g with
      | false =>
        have HNO := Lib.hid (ret_bool (show false = r by rw [HRS.out]; rfl))
        clear HRS
        go_wp2_with fail
        refine (HG.out _ HBX.out).mono ?_
        rintro e w1 ⟨rfl, ha1⟩
        have HB1 := Lib.hid (HBB.out.trans (ha1.mono HBB.out.size))
        clear ha1
        go_wp2
        go_ret
        exact ⟨HNO.out, HB1.out⟩
      | true =>
        rw [Bool.true_and] at HRS
        go_wp2_with fail
        refine (HG.out _ HBX.out).mono ?_
        rintro e w1 ⟨rfl, ha1⟩
        have hk1 := (ha1.block wr.heap.size (lt_blk HKB.out)).trans HKB.out
        have y1 := cell_of_row _ _ 1 _ 91 (0, 0) hk1
        have y2 := cell_of_row _ _ 2 _ 91 (0, 0) hk1
        have HKG1 := Lib.hid ((ha1.block w.heap.size (lt_blk HKG.out)).trans HKG.out)
        have HB1 := Lib.hid (HBB.out.trans (ha1.mono HBB.out.size))
        clear ha1 hk1 c0 c1 c2 g1 HKG HKB
        by_cases h1 : 0 ≤ su
        · by_cases h2 : su ≤ (nl : Int)
          · have e1 : decide (su < 0) = false := by simp; omega
            have e2 : decide ((nl : Int) < su) = false := by simp; omega
            have HRS := Lib.hid (show r = repsB tm ((hs.map rdat).drop (k + 1)) by rw [HRS.out]; simp [h1, h2])
            go_wp2
            go_roundw
            case rel => exact ⟨k + 1, by omega, by go_num, HRS, HB1, HKG1⟩
            case measure => simp [intOf]; omega
          · have e1 : decide (su < 0) = false := by simp; omega
            have e2 : decide ((nl : Int) < su) = true := by simp; omega
            have HNO := Lib.hid (ret_bool (show false = r by rw [HRS.out]; simp [h2]))
            clear HRS
            go_wp2
            go_ret
            exact ⟨HNO.out, HB1.out⟩
        · have e1 : decide (su < 0) = true := by simp; omega
          have HNO := Lib.hid (ret_bool (show false = r by rw [HRS.out]; simp [h1]))
          clear HRS
          go_wp2
          go_ret
          exact ⟨HNO.out, HB1.out⟩
    · have HYES := Lib.hid (ret_bool (show true = r by rw [HR.out, repsB_end (by simp; omega)]))
      clear HR
      go_wp2
      go_ret
      exact ⟨HYES.out, HB.out⟩

set_option maxRecDepth 100000 in
set_option maxHeartbeats 4000000 in
theorem implGoodGroup_any (A : Option Addr) (n c : Nat) (tm ld : Int) (hs : List RH) (B : Nat) (w : World) (hn : hs.length = n) (h : RowsB KR w B A hs) (hB : B ≤ w.heap.size) (hm : RpSmall (hs.map rdat)) :
    Calls Try.prog 114 #[.agg #[.slice A n c, .int .i64 tm, .int .i64 ld]] w fun e w' => e = .returned (.bool (grpB tm ld (hs.map rdat))) ∧ Below w.heap.size w w' := by
  have hb0 := below1 w (.cells #[.slice A n c, .int .i64 tm, .int .i64 ld] 45)
  have hk0 := heap_alloc_new w (.cells #[.slice A n c, .int .i64 tm, .int .i64 ld] 45)
  have hnl : n ≤ 1048576 := by have := hm.1; simp at this; omega
  have HZ := Lib.hid (fun W => isSize_any n W hnl)
  have HL := Lib.hid (fun W (hW : Below w.heap.size w W) => goodLead_any A n c tm ld hs B W hn (h.below (hW.mono hB)) (Nat.le_trans hB hW.size) hnl)
  have HG := Lib.hid (fun W (hW : Below w.heap.size w W) => goodReps_any A n c tm ld hs B W hn (h.below (hW.mono hB)) (Nat.le_trans hB hW.size) hm)
  obtain ⟨r, hr⟩ : ∃ r, r = grpB tm ld (hs.map rdat) := ⟨_, rfl⟩
  rw [← hr]
  rw [grpB, List.length_map, hn] at hr
  obtain ⟨g0, hg0⟩ : ∃ g, g = szB n := ⟨_, rfl⟩
  obtain ⟨g1, hg1⟩ : ∃ g, g = decide (0 ≤ tm) := ⟨_, rfl⟩
  obtain ⟨g2, hg2⟩ : ∃ g, g = decide (tm ≤ 200) := ⟨_, rfl⟩
  obtain ⟨g3, hg3⟩ : ∃ g, g = leadB tm ld (hs.map rdat) := ⟨_, rfl⟩
  obtain ⟨g4, hg4⟩ : ∃ g, g = repsB tm (hs.map rdat) := ⟨_, rfl⟩
  rw [← hg0, ← hg1, ← hg2, ← hg3, ← hg4] at hr
  rw [← hg0] at HZ
  rw [← hg3] at HL
  rw [← hg4] at HG
  have e1 := hg1.symm
  have e2 := hg2.symm
  have HB0 := Lib.hid hb0
  have HK := Lib.hid hk0
  have HR := Lib.hid hr
  clear hb0 hk0 hn h hB hm hg0 hg1 hg2 hg3 hg4 hr
  go_enter Try.func114, Try.ntmps114
  go_wp2_with fail
  refine (HZ.out _).mono ?_
  rintro e w1 ⟨rfl, rfl⟩
  cases g0 with
  | false =>
    have HX := Lib.hid (ret_bool (show false = r by rw [HR.out]; rfl))
    clear HR
    go_wp2
    go_ret
    exact ⟨HX.out, HB0.out⟩
  | true =>
    cases g1 with
    | false =>
      have HX := Lib.hid (ret_bool (show false = r by rw [HR.out]; rfl))
      clear HR
      go_wp2
      go_ret
      exact ⟨HX.out, HB0.out⟩
    | true =>
      cases g2 with
      | false =>
        have HX := Lib.hid (ret_bool (show false = r by rw [HR.out]; rfl))
        clear HR
        go_wp2
        go_ret
        exact ⟨HX.out, HB0.out⟩
      | true =>
        go_wp2_with fail
        refine (HL.out _ HB0.out).mono ?_
        rintro e w2 ⟨rfl, ha2⟩
        have HB2 := Lib.hid (HB0.out.trans (ha2.mono HB0.out.size))
        have hk2 := (ha2.block w.heap.size (lt_blk HK.out)).trans HK.out
        have y0 := cell_of_row _ _ 0 _ 45 (0, 0) hk2
        have y1 := cell_of_row _ _ 1 _ 45 (0, 0) hk2
        have y2 := cell_of_row _ _ 2 _ 45 (0, 0) hk2
        have yl := lt_blk hk2
        clear ha2 hk2
        cases g3 with
        | false =>
          have HX := Lib.hid (ret_bool (show false = r by rw [HR.out]; rfl))
          clear HR
          go_wp2
          go_ret
          exact ⟨HX.out, HB2.out⟩
        | true =>
          cases g4 with
          | false =>
            go_wp2_with fail
            refine (HG.out _ HB2.out).mono ?_
            rintro e w3 ⟨rfl, ha3⟩
            have HB3 := Lib.hid (HB2.out.trans (ha3.mono HB2.out.size))
            clear ha3 y0 y1 y2
            have HX := Lib.hid (ret_bool (show false = r by rw [HR.out]; rfl))
            clear HR
            go_wp2
            go_ret
            exact ⟨HX.out, HB3.out⟩
          | true =>
            go_wp2_with fail
            refine (HG.out _ HB2.out).mono ?_
            rintro e w3 ⟨rfl, ha3⟩
            have HB3 := Lib.hid (HB2.out.trans (ha3.mono HB2.out.size))
            clear ha3 y0 y1 y2
            have HX := Lib.hid (ret_bool (show true = r by rw [HR.out]; rfl))
            clear HR
            go_wp2
            go_ret
            exact ⟨HX.out, HB3.out⟩

theorem repB_model (term : Int) (up : Bool) (su : Int) (l : List ED) : repB term ⟨up, su, l⟩ = (decide (l.length ≤ 60) && (inB su 0 (l.length : Int) && lgB term 1 l)) := by
  simp only [repB, logB, inB]
  cases decide (l.length ≤ 60) <;> cases lgB term 1 l <;> simp

set_option maxRecDepth 100000 in
set_option maxHeartbeats 4000000 in
theorem l9GoodRep_any (up : Bool) (su : Int) (Al : Option Addr) (nl cl : Nat) (term : Int) (es : List EH) (B : Nat) (w : World) (hn : es.length = nl) (h : RowsB KE w B Al es) (hB : B ≤ w.heap.size) (hm : LgSmall (es.map EH.d)) :
    Calls Try.prog 111 #[.agg #[.bool up, .slice Al nl cl, .int .i64 su], .int .i64 term] w fun e w' => e = .returned (.bool (repB term ⟨up, su, es.map EH.d⟩)) ∧ Below w.heap.size w w' := by
  obtain ⟨hl, hms⟩ := hm
  have HN := Lib.hid hn
  have hge := Nat.le_of_eq hn
  have hle := Nat.le_of_eq hn.symm
  have hnl : nl ≤ 1048576 := by simp at hl; omega
  have HS := Lib.hid h
  have HM := Lib.hid hms
  obtain ⟨r, hr⟩ : ∃ r, r = repB term ⟨up, su, es.map EH.d⟩ := ⟨_, rfl⟩
  rw [← hr]
  rw [repB_model, List.length_map, hn] at hr
  have hb0 := below1 w (.cells #[.bool up, .slice Al nl cl, .int .i64 su] 91)
  have hk0 := heap_alloc_new w (.cells #[.bool up, .slice Al nl cl, .int .i64 su] 91)
  have HK0 := Lib.hid hk0
  have HB0 := Lib.hid hb0
  clear hn h hms hl hb0 hk0
  by_cases h60 : nl ≤ 60
  · have e60 : decide ((60 : Int) < (nl : Int)) = false := by simp; omega
    rw [decide_eq_true h60, Bool.true_and] at hr
    have HI := Lib.hid (fun W => l1In_any su 0 (nl : Int) W)
    obtain ⟨g0, hg0⟩ : ∃ g, g = inB su 0 (nl : Int) := ⟨_, rfl⟩
    rw [← hg0] at hr HI
    cases g0 with
    | false =>
      have HNO := Lib.hid (ret_bool (show false = r by rw [hr]; rfl))
      clear hr hg0
      go_enter Try.func111, Try.ntmps111
      go_wp2_with fail
      refine (HI.out _).mono ?_
      rintro e w1 ⟨rfl, rfl⟩
      go_wp2
      go_ret
      exact ⟨HNO.out, HB0.out⟩
    | true =>
      rw [Bool.true_and] at hr
      have HR0 := Lib.hid (show r = lgB term 1 ((es.map EH.d).drop 0) from hr)
      clear hr hg0
      go_enter Try.func111, Try.ntmps111
      go_wp2_with fail
      refine (HI.out _).mono ?_
      rintro e w1 ⟨rfl, rfl⟩
      go_wp2_with fail
      go_loopw [5, 6] (fun v j wr => ∃ (k : Nat) (b0 : Int), k ≤ nl ∧ j = .int .i64 k ∧ v = .int .i64 b0 ∧ Hid (r = lgB term b0 ((es.map EH.d).drop k)) ∧ Hid (Below w.heap.size w wr) ∧ Hid (wr.heap[w.heap.size]? = some (.cells #[.bool up, .slice Al nl cl, .int .i64 su] 91 (0, 0)))) (fun _ j _ => nl - (intOf j).toNat)
      case atStart => exact ⟨0, 1, by omega, rfl, rfl, HR0, HB0, HK0⟩
      case round =>
        clear HR0 HB0 HK0
        obtain ⟨k, b0, hk, rfl, rfl, HR, HB, HK⟩ := hrel
        have a1 := cell_of_row _ _ 1 _ 91 (0, 0) HK.out
        by_cases hlt : k < nl
        · obtain ⟨b, off, rfl, hbB, hc⟩ := en_get HS.out (by omega)
          obtain ⟨hc0, hc1, hc2, hc3, hc4, hc5, hc6, hc7⟩ := hc k (by omega)
          have hb := HB.out
          have c0 := (hb.cell (p := ⟨b, off + k * 8, none⟩) (Nat.lt_of_lt_of_le hbB hB)).trans hc0
          have c1 := (hb.cell (p := ⟨b, off + k * 8 + 1, none⟩) (Nat.lt_of_lt_of_le hbB hB)).trans hc1
          have c2 := (hb.cell (p := ⟨b, off + k * 8 + 2, none⟩) (Nat.lt_of_lt_of_le hbB hB)).trans hc2
          have c3 := (hb.cell (p := ⟨b, off + k * 8 + 3, none⟩) (Nat.lt_of_lt_of_le hbB hB)).trans hc3
          have c4 := (hb.cell (p := ⟨b, off + k * 8 + 4, none⟩) (Nat.lt_of_lt_of_le hbB hB)).trans hc4
          have c5 := (hb.cell (p := ⟨b, off + k * 8 + 5, none⟩) (Nat.lt_of_lt_of_le hbB hB)).trans hc5
          have c6 := (hb.cell (p := ⟨b, off + k * 8 + 6, none⟩) (Nat.lt_of_lt_of_le hbB hB)).trans hc6
          have c7 := (hb.cell (p := ⟨b, off + k * 8 + 7, none⟩) (Nat.lt_of_lt_of_le hbB hB)).trans hc7
          have HRS := Lib.hid (HR.out.trans (lgB_step (show k < (es.map EH.d).length by simp; omega)))
          have HBr := Nat.le_trans hB hb.size
          have hrd := KE.rd_below (HS.out.at k (by omega)) (hb.mono hB)
          have hsm := HM.out (es[k]'(by omega)).d (List.mem_map.2 ⟨_, List.getElem_mem (show k < es.length by omega), rfl⟩)
          rw [d_at (show k < es.length by omega)] at HRS
          obtain ⟨y, hy⟩ : ∃ y, y = es[k]'(by omega) := ⟨_, rfl⟩
          rw [← hy] at c0 c1 c2 c3 c4 c5 c6 c7 hrd hsm HRS
          obtain ⟨⟨tm, kk, tt, xx, ll, yy, rs, ws⟩, Ar, cr, Aw, cw, elo, em, ehi⟩ := y
          simp only [erB] at c0 c1 c2 c3 c4 c5 c6 c7 hrd hsm HRS
          have HG := Lib.hid (specGoodRec_any kk tt xx ll yy Ar Aw rs.length ws.length cr cw rs ws B wr rfl rfl hrd.1 hrd.2 HBr hsm.1 hsm.2)
          have HT := Lib.hid (fun W => l1In_any tm b0 term W)
          obtain ⟨g, hg⟩ : ∃ g, g = recB kk tt xx ll yy rs ws := ⟨_, rfl⟩
          rw [← hg] at HG HRS
          obtain ⟨gi, hgi⟩ : ∃ g, g = inB tm b0 term := ⟨_, rfl⟩
          rw [← hgi] at HT HRS
          obtain ⟨nr, hvnr⟩ : ∃ nr, nr = rs.length := ⟨_, rfl⟩
          rw [← hvnr] at c5 HG
          obtain ⟨nw, hvnw⟩ : ∃ nw, nw = ws.length := ⟨_, rfl⟩
          rw [← hvnw] at c6 HG
          have hk0 : (0 : Int) ≤ (k : Int) := by omega
          have hkn : (k : Int) < (nl : Int) := by omega
          have hbw : b < wr.heap.size := Nat.lt_of_lt_of_le hbB HBr
          clear hc hc0 hc1 hc2 hc3 hc4 hc5 hc6 hc7 hy hrd hsm hg hgi hvnr hvnw hb HR HBr
          cases gi with
          | false =>
            have HNO := Lib.hid (ret_bool (show false = r by rw [HRS.out]; rfl))
            clear HRS
            go_wp2_with fail
            refine (HT.out _).mono ?_
            rintro e w1 ⟨rfl, rfl⟩
            go_wp2
            go_ret
            exact ⟨HNO.out, HB.out⟩
          | true =>
            rw [Bool.true_and] at HRS
            cases g with
            | false =>
              have HNO := Lib.hid (ret_bool (show false = r by rw [HRS.out]; rfl))
              clear HRS
              go_wp2_with fail
              refine (HT.out _).mono ?_
              rintro e w1 ⟨rfl, rfl⟩
              go_wp2_with fail
              refine HG.out.mono ?_
              rintro e w1 ⟨rfl, ha1⟩
              have HB1 := Lib.hid (HB.out.trans (ha1.mono HB.out.size))
              clear ha1
              go_wp2
              go_ret
              exact ⟨HNO.out, HB1.out⟩
            | true =>
              rw [Bool.true_and] at HRS
              go_wp2_with fail
              refine (HT.out _).mono ?_
              rintro e w1 ⟨rfl, rfl⟩
              go_wp2_with fail
              refine HG.out.mono ?_
              rintro e w1 ⟨rfl, ha1⟩
              have HB1 := Lib.hid (HB.out.trans (ha1.mono HB.out.size))
              have HK1 := Lib.hid ((ha1.block w.heap.size (lt_blk HK.out)).trans HK.out)
              have d0 := (ha1.cell (p := ⟨b, off + k * 8, none⟩) hbw).trans c0
              have a2 := cell_of_row _ _ 1 _ 91 (0, 0) HK1.out
              clear ha1 c0 c1 c2 c3 c4 c5 c6 c7 a1
              go_wp2
              go_roundw
              case rel => exact ⟨k + 1, tm, by omega, by go_num, rfl, HRS, HB1, HK1⟩
              case measure => simp [intOf]; omega
        · have HYES := Lib.hid (ret_bool (show true = r by rw [HR.out, lgB_end (by simp; omega)]))
          clear HR
          go_wp2
          go_ret
          exact ⟨HYES.out, HB.out⟩
  · have e60 : decide ((60 : Int) < (nl : Int)) = true := by simp; omega
    have HNO := Lib.hid (ret_bool (show false = r by rw [hr]; simp [h60]))
    clear hr
    go_enter Try.func111, Try.ntmps111
    go_wp2
    go_ret
    exact ⟨HNO.out, HB0.out⟩

set_option maxRecDepth 100000 in
set_option maxHeartbeats 4000000 in
theorem specGoodGroup_any (A : Option Addr) (n c : Nat) (tm ld : Int) (hs : List RH) (B : Nat) (w : World) (hn : hs.length = n) (h : RowsB KR w B A hs) (hB : B ≤ w.heap.size) (hm : RpSmall (hs.map rdat)) :
    Calls Try.prog 57 #[.agg #[.slice A n c, .int .i64 tm, .int .i64 ld]] w fun e w' => e = .returned (.bool (grpB tm ld (hs.map rdat))) ∧ Below w.heap.size w w' := by
  have hb0 := below1 w (.cells #[.slice A n c, .int .i64 tm, .int .i64 ld] 45)
  have hk0 := heap_alloc_new w (.cells #[.slice A n c, .int .i64 tm, .int .i64 ld] 45)
  have hnl : n ≤ 1048576 := by have := hm.1; simp at this; omega
  have HM := Lib.hid hm.2
  have HN := Lib.hid hn
  have HS := Lib.hid h
  have hge := Nat.le_of_eq hn
  have hle := Nat.le_of_eq hn.symm
  have HT := Lib.hid (fun W => l1In_any tm 0 200 W)
  have HL := Lib.hid (fun W => l1In_any ld (-1) ((n : Int) - 1) W)
  obtain ⟨r, hr⟩ : ∃ r, r = grpB tm ld (hs.map rdat) := ⟨_, rfl⟩
  rw [← hr]
  rw [grpB_model, List.length_map, hn] at hr
  obtain ⟨g1, hg1⟩ : ∃ g, g = inB tm 0 200 := ⟨_, rfl⟩
  obtain ⟨g2, hg2⟩ : ∃ g, g = inB ld (-1) ((n : Int) - 1) := ⟨_, rfl⟩
  obtain ⟨g3, hg3⟩ : ∃ g, g = repsB tm (hs.map rdat) := ⟨_, rfl⟩
  rw [← hg1, ← hg2, ← hg3] at hr
  rw [← hg1] at HT
  rw [← hg2] at HL
  have HG3 := Lib.hid (show g3 = repsB tm ((hs.map rdat).drop 0) from hg3)
  have HG2 := Lib.hid hg2
  have HB0 := Lib.hid hb0
  have HK0 := Lib.hid hk0
  have HR := Lib.hid hr
  clear hb0 hk0 hn h hm hg1 hg2 hg3 hr
  by_cases hsz : n = 3 ∨ n = 5
  · have hsb : szB n = true := by simpa [szB] using hsz
    have HR := Lib.hid (HR.out.trans (by rw [hsb, Bool.true_and]))
    have HSZ := Lib.hid (show (n : Int) = 3 ∨ (n : Int) = 5 by omega)
    have hn1 : 1 ≤ n := by omega
    obtain ⟨p3, hp3⟩ : ∃ p, p = ((n : Int) != 3) := ⟨_, rfl⟩
    obtain ⟨p5, hp5⟩ : ∃ p, p = ((n : Int) != 5) := ⟨_, rfl⟩
    have HPP := Lib.hid (show (p3 && p5) = false by rw [hp3, hp5]; rcases hsz with rfl | rfl <;> rfl)
    have q3 := hp3.symm
    have q5 := hp5.symm
    clear hsb hsz hp3 hp5
    cases p3
    · go_enter Try.func57, Try.ntmps57
      go_wp2_with fail
      refine (HT.out _).mono ?_
      rintro e w1 ⟨rfl, rfl⟩
      cases g1 with
      | false =>
        have HX := Lib.hid (ret_bool (show false = r by rw [HR.out]; rfl))
        clear HR
        go_wp2
        go_ret
        exact ⟨HX.out, HB0.out⟩
      | true =>
        have HR := Lib.hid (HR.out.trans (Bool.true_and _))
        go_wp2_with fail
        refine (HL.out _).mono ?_
        rintro e w1 ⟨rfl, rfl⟩
        cases g2 with
        | false =>
          have HX := Lib.hid (ret_bool (show false = r by rw [HR.out]; rfl))
          clear HR
          go_wp2
          go_ret
          exact ⟨HX.out, HB0.out⟩
        | true =>
          have HR := Lib.hid (HR.out.trans (Bool.true_and _))
          have HIN := Lib.hid (inB_true HG2.out.symm)
          go_wp2_with fail
          go_loopw [3] (fun j wr => ∃ k : Nat, k ≤ n ∧ j = .int .i64 k ∧ Hid (g3 = repsB tm ((hs.map rdat).drop k)) ∧ Hid (Below w.heap.size w wr) ∧ Hid (wr.heap[w.heap.size]? = some (.cells #[.slice A n c, .int .i64 tm, .int .i64 ld] 45 (0, 0)))) (fun j _ => n - (intOf j).toNat)
          case atStart => exact ⟨0, by omega, rfl, HG3, HB0, HK0⟩
          case round =>
            clear HG3 HB0 HK0
            obtain ⟨k, hk, rfl, HGR, HB, HK⟩ := hrel
            have a0 := cell_of_row _ _ 0 _ 45 (0, 0) HK.out
            have a1 := cell_of_row _ _ 1 _ 45 (0, 0) HK.out
            have a2 := cell_of_row _ _ 2 _ 45 (0, 0) HK.out
            have al := lt_blk HK.out
            by_cases hlt : k < n
            · obtain ⟨b, off, rfl, hbB, hc⟩ := rp_get HS.out (by omega)
              obtain ⟨hc0, hc1, hc2⟩ := hc k (by omega)
              have hb := HB.out
              have c0 := (hb.cell (p := ⟨b, off + k * 3, none⟩) (Nat.lt_of_lt_of_le hbB hB)).trans hc0
              have c1 := (hb.cell (p := ⟨b, off + k * 3 + 1, none⟩) (Nat.lt_of_lt_of_le hbB hB)).trans hc1
              have c2 := (hb.cell (p := ⟨b, off + k * 3 + 2, none⟩) (Nat.lt_of_lt_of_le hbB hB)).trans hc2
              have HRS := Lib.hid (HGR.out.trans (repsB_step (show k < (hs.map rdat).length by simp; omega)))
              have HBr := Nat.le_trans hB hb.size
              have hrd := KR.rd_below (HS.out.at k (by omega)) (hb.mono hB)
              have hsm := HM.out (rdat (hs[k]'(by omega))) (List.mem_map.2 ⟨_, List.getElem_mem (show k < hs.length by omega), rfl⟩)
              rw [r_at (show k < hs.length by omega)] at HRS
              obtain ⟨y, hy⟩ : ∃ y, y = hs[k]'(by omega) := ⟨_, rfl⟩
              rw [← hy] at c0 c1 c2 hrd hsm HRS
              obtain ⟨up, su, Al, cl, es, rlo, rhi⟩ := y
              simp only [rdat] at c0 c1 c2 hrd hsm HRS
              have HG := Lib.hid (fun W (hW : Below wr.heap.size wr W) => l9GoodRep_any up su Al es.length cl tm es B W rfl (RowsB.below (K := KE) hrd (hW.mono HBr)) (Nat.le_trans HBr hW.size) hsm)
              obtain ⟨g, hg⟩ : ∃ g, g = repB tm ⟨up, su, es.map EH.d⟩ := ⟨_, rfl⟩
              rw [← hg] at HG HRS
              obtain ⟨nl, hvnl⟩ : ∃ nl, nl = es.length := ⟨_, rfl⟩
              rw [← hvnl] at c1 HG
              have hk0 : (0 : Int) ≤ (k : Int) := by omega
              have hkn : (k : Int) < (n : Int) := by omega
              have hbw : b < wr.heap.size := Nat.lt_of_lt_of_le hbB HBr
              have z0 := bel_cell c0 hbw
              have z1 := bel_cell c1 hbw
              have z2 := bel_cell c2 hbw
              have b0 := bel_cell a0 al
              have b1 := bel_cell a1 al
              clear hc hc0 hc1 hc2 hy hrd hsm hg hvnl hb HGR HBr
              go_wp2_with fail
              refine bel_region (by kernel_rfl) (by kernel_rfl) ?_
              repeat (go_big_quiet_step ((go_at_call 111; (with_reducible exact bel_call (HG.out _ (BelT.below _))))))
              refine wpQuiet_nil ?_
              intro p
              have HB3 := Lib.hid (HB.out.trans (p.below.mono HB.out.size))
              have HK3 := Lib.hid ((p.below.block w.heap.size (lt_blk HK.out)).trans HK.out)
              cases g with
              | false =>
                have HX := Lib.hid (ret_bool (show false = r by rw [HR.out, HRS.out]; rfl))
                clear HRS HR
                go_wp2
                go_ret
                exact ⟨HX.out, HB3.out⟩
              | true =>
                rw [Bool.true_and] at HRS
                go_wp2
                go_roundw
                case rel => exact ⟨k + 1, by omega, by go_num, HRS, HB3, HK3⟩
                case measure => simp [intOf]; omega
            · have hg3 : g3 = true := HGR.out.trans (repsB_end (by simp; omega))
              have HR := Lib.hid (HR.out.trans (by rw [hg3, Bool.true_and]))
              clear hg3 HGR
              by_cases hneg : ld < 0
              · have HX := Lib.hid (ret_bool (show true = r by rw [HR.out]; simp [hneg]))
                clear HR
                have e1 : decide (ld < 0) = true := by simp [hneg]
                go_wp2
                go_ret
                exact ⟨HX.out, HB.out⟩
              · have HR := Lib.hid (HR.out.trans (show _ = (decide (0 < tm) && upAt (hs.map rdat) ld.toNat) by simp [hneg]))
                have e1 : decide (ld < 0) = false := by simp; omega
                obtain ⟨q, hq⟩ : ∃ q : Nat, ld = (q : Int) := ⟨ld.toNat, by omega⟩
                have hqn : q < hs.length := by have := HIN.out; omega
                obtain ⟨b, off, rfl, hbB, hc⟩ := rp_get HS.out (by omega)
                obtain ⟨hc0, hc1, hc2⟩ := hc q hqn
                have c0 := (HB.out.cell (p := ⟨b, off + q * 3, none⟩) (Nat.lt_of_lt_of_le hbB hB)).trans hc0
                have HR := Lib.hid (HR.out.trans (show _ = (decide (0 < tm) && (hs[q]'hqn).up) by rw [hq, Int.toNat_natCast, upAt_map hqn]))
                obtain ⟨u, hu⟩ : ∃ u, u = (hs[q]'hqn).up := ⟨_, rfl⟩
                rw [← hu] at c0 HR
                obtain ⟨t, ht⟩ : ∃ t, t = decide (0 < tm) := ⟨_, rfl⟩
                rw [← ht] at HR
                have ht2 := ht.symm
                have h3 : (q : Int) < (n : Int) := by omega
                have h4 : (0 : Int) ≤ (q : Int) := by omega
                have hbw : b < wr.heap.size := Nat.lt_of_lt_of_le hbB (Nat.le_trans hB HB.out.size)
                subst hq
                clear hc hc0 hc1 hc2 hu ht hqn hneg HIN
                cases t <;> cases u
                all_goals
                  have HX := Lib.hid (ret_bool HR.out.symm)
                  clear HR
                  go_wp2
                  go_ret
                  exact ⟨HX.out, HB.out⟩
    · cases p5
      · go_enter Try.func57, Try.ntmps57
        go_wp2_with fail
        refine (HT.out _).mono ?_
        rintro e w1 ⟨rfl, rfl⟩
        cases g1 with
        | false =>
          have HX := Lib.hid (ret_bool (show false = r by rw [HR.out]; rfl))
          clear HR
          go_wp2
          go_ret
          exact ⟨HX.out, HB0.out⟩
        | true =>
          have HR := Lib.hid (HR.out.trans (Bool.true_and _))
          go_wp2_with fail
          refine (HL.out _).mono ?_
          rintro e w1 ⟨rfl, rfl⟩
          cases g2 with
          | false =>
            have HX := Lib.hid (ret_bool (show false = r by rw [HR.out]; rfl))
            clear HR
            go_wp2
            go_ret
            exact ⟨HX.out, HB0.out⟩
          | true =>
            have HR := Lib.hid (HR.out.trans (Bool.true_and _))
            have HIN := Lib.hid (inB_true HG2.out.symm)
            go_wp2_with fail
            go_loopw [3] (fun j wr => ∃ k : Nat, k ≤ n ∧ j = .int .i64 k ∧ Hid (g3 = repsB tm ((hs.map rdat).drop k)) ∧ Hid (Below w.heap.size w wr) ∧ Hid (wr.heap[w.heap.size]? = some (.cells #[.slice A n c, .int .i64 tm, .int .i64 ld] 45 (0, 0)))) (fun j _ => n - (intOf j).toNat)
            case atStart => exact ⟨0, by omega, rfl, HG3, HB0, HK0⟩
            case round =>
              clear HG3 HB0 HK0
              obtain ⟨k, hk, rfl, HGR, HB, HK⟩ := hrel
              have a0 := cell_of_row _ _ 0 _ 45 (0, 0) HK.out
              have a1 := cell_of_row _ _ 1 _ 45 (0, 0) HK.out
              have a2 := cell_of_row _ _ 2 _ 45 (0, 0) HK.out
              have al := lt_blk HK.out
              by_cases hlt : k < n
              · obtain ⟨b, off, rfl, hbB, hc⟩ := rp_get HS.out (by omega)
                obtain ⟨hc0, hc1, hc2⟩ := hc k (by omega)
                have hb := HB.out
                have c0 := (hb.cell (p := ⟨b, off + k * 3, none⟩) (Nat.lt_of_lt_of_le hbB hB)).trans hc0
                have c1 := (hb.cell (p := ⟨b, off + k * 3 + 1, none⟩) (Nat.lt_of_lt_of_le hbB hB)).trans hc1
                have c2 := (hb.cell (p := ⟨b, off + k * 3 + 2, none⟩) (Nat.lt_of_lt_of_le hbB hB)).trans hc2
                have HRS := Lib.hid (HGR.out.trans (repsB_step (show k < (hs.map rdat).length by simp; omega)))
                have HBr := Nat.le_trans hB hb.size
                have hrd := KR.rd_below (HS.out.at k (by omega)) (hb.mono hB)
                have hsm := HM.out (rdat (hs[k]'(by omega))) (List.mem_map.2 ⟨_, List.getElem_mem (show k < hs.length by omega), rfl⟩)
                rw [r_at (show k < hs.length by omega)] at HRS
                obtain ⟨y, hy⟩ : ∃ y, y = hs[k]'(by omega) := ⟨_, rfl⟩
                rw [← hy] at c0 c1 c2 hrd hsm HRS
                obtain ⟨up, su, Al, cl, es, rlo, rhi⟩ := y
                simp only [rdat] at c0 c1 c2 hrd hsm HRS
                have HG := Lib.hid (fun W (hW : Below wr.heap.size wr W) => l9GoodRep_any up su Al es.length cl tm es B W rfl (RowsB.below (K := KE) hrd (hW.mono HBr)) (Nat.le_trans HBr hW.size) hsm)
                obtain ⟨g, hg⟩ : ∃ g, g = repB tm ⟨up, su, es.map EH.d⟩ := ⟨_, rfl⟩
                rw [← hg] at HG HRS
                obtain ⟨nl, hvnl⟩ : ∃ nl, nl = es.length := ⟨_, rfl⟩
                rw [← hvnl] at c1 HG
                have hk0 : (0 : Int) ≤ (k : Int) := by omega
                have hkn : (k : Int) < (n : Int) := by omega
                have hbw : b < wr.heap.size := Nat.lt_of_lt_of_le hbB HBr
                have z0 := bel_cell c0 hbw
                have z1 := bel_cell c1 hbw
                have z2 := bel_cell c2 hbw
                have b0 := bel_cell a0 al
                have b1 := bel_cell a1 al
                clear hc hc0 hc1 hc2 hy hrd hsm hg hvnl hb HGR HBr
                go_wp2_with fail
                refine bel_region (by kernel_rfl) (by kernel_rfl) ?_
                repeat (go_big_quiet_step ((go_at_call 111; (with_reducible exact bel_call (HG.out _ (BelT.below _))))))
                refine wpQuiet_nil ?_
                intro p
                have HB3 := Lib.hid (HB.out.trans (p.below.mono HB.out.size))
                have HK3 := Lib.hid ((p.below.block w.heap.size (lt_blk HK.out)).trans HK.out)
                cases g with
                | false =>
                  have HX := Lib.hid (ret_bool (show false = r by rw [HR.out, HRS.out]; rfl))
                  clear HRS HR
                  go_wp2
                  go_ret
                  exact ⟨HX.out, HB3.out⟩
                | true =>
                  rw [Bool.true_and] at HRS
                  go_wp2
                  go_roundw
                  case rel => exact ⟨k + 1, by omega, by go_num, HRS, HB3, HK3⟩
                  case measure => simp [intOf]; omega
              · have hg3 : g3 = true := HGR.out.trans (repsB_end (by simp; omega))
                have HR := Lib.hid (HR.out.trans (by rw [hg3, Bool.true_and]))
                clear hg3 HGR
                by_cases hneg : ld < 0
                · have HX := Lib.hid (ret_bool (show true = r by rw [HR.out]; simp [hneg]))
                  clear HR
                  have e1 : decide (ld < 0) = true := by simp [hneg]
                  go_wp2
                  go_ret
                  exact ⟨HX.out, HB.out⟩
                · have HR := Lib.hid (HR.out.trans (show _ = (decide (0 < tm) && upAt (hs.map rdat) ld.toNat) by simp [hneg]))
                  have e1 : decide (ld < 0) = false := by simp; omega
                  obtain ⟨q, hq⟩ : ∃ q : Nat, ld = (q : Int) := ⟨ld.toNat, by omega⟩
                  have hqn : q < hs.length := by have := HIN.out; omega
                  obtain ⟨b, off, rfl, hbB, hc⟩ := rp_get HS.out (by omega)
                  obtain ⟨hc0, hc1, hc2⟩ := hc q hqn
                  have c0 := (HB.out.cell (p := ⟨b, off + q * 3, none⟩) (Nat.lt_of_lt_of_le hbB hB)).trans hc0
                  have HR := Lib.hid (HR.out.trans (show _ = (decide (0 < tm) && (hs[q]'hqn).up) by rw [hq, Int.toNat_natCast, upAt_map hqn]))
                  obtain ⟨u, hu⟩ : ∃ u, u = (hs[q]'hqn).up := ⟨_, rfl⟩
                  rw [← hu] at c0 HR
                  obtain ⟨t, ht⟩ : ∃ t, t = decide (0 < tm) := ⟨_, rfl⟩
                  rw [← ht] at HR
                  have ht2 := ht.symm
                  have h3 : (q : Int) < (n : Int) := by omega
                  have h4 : (0 : Int) ≤ (q : Int) := by omega
                  have hbw : b < wr.heap.size := Nat.lt_of_lt_of_le hbB (Nat.le_trans hB HB.out.size)
                  subst hq
                  clear hc hc0 hc1 hc2 hu ht hqn hneg HIN
                  cases t <;> cases u
                  all_goals
                    have HX := Lib.hid (ret_bool HR.out.symm)
                    clear HR
                    go_wp2
                    go_ret
                    exact ⟨HX.out, HB.out⟩
      · exact absurd HPP.out (by simp)
  · have hsb : szB n = false := by simpa [szB] using hsz
    have HNO := Lib.hid (ret_bool (show false = r by rw [HR.out, hsb]; rfl))
    have q3 : ((n : Int) != 3) = true := by simp; omega
    have q5 : ((n : Int) != 5) = true := by simp; omega
    clear hsb hsz HR
    go_enter Try.func57, Try.ntmps57
    go_wp2
    go_ret
    exact ⟨HNO.out, HB0.out⟩

end Go.Proofs.Ytkhndofplebcaaa.Gr
