/-
  Contracts for what an election asks: lastTerm, isMoreRecent, isMajority, the closure of electRep, mostAre; l9Last, l9Later of the model.
-/
import Derived.Test.YtnmhigbnlpcedaaGrGd
namespace Go.Proofs.Ytnmhigbnlpcedaa.Gr
open Go.RowKit CM
set_option linter.unusedVariables false
set_option linter.unusedSimpArgs false

def lastT (l : List ED) : Int := if h : 0 < l.length then (l[l.length - 1]'(by omega)).tm else 0
theorem lastT_nil {l : List ED} (h : l.length = 0) : lastT l = 0 := by unfold lastT; rw [dif_neg (by omega)]
theorem lastT_at {es : List EH} {m : Nat} (h : es.length = m + 1) : lastT (es.map EH.d) = (es[m]'(by omega)).d.tm := by
  unfold lastT
  rw [dif_pos (by rw [List.length_map]; omega)]
  simp [h]
def moreB (a b : List ED) : Bool := decide (lastT b < lastT a) || (decide (lastT a = lastT b) && decide (b.length < a.length))
def yesV (b : List ED) (r : RD) : Bool := r.up && !moreB r.log b
def cntV (b : List ED) (rs : List RD) : Nat := (rs.filter (yesV b)).length
theorem cntV_step {b : List ED} {rs : List RD} {k : Nat} (h : k < rs.length) : cntV b (rs.drop k) = (yesV b rs[k]).toNat + cntV b (rs.drop (k + 1)) := by
  unfold cntV
  rw [List.drop_eq_getElem_cons h, List.filter_cons]
  cases yesV b rs[k] <;> simp <;> omega
theorem cntV_le (b : List ED) (rs : List RD) : cntV b rs ≤ rs.length := List.length_filter_le _ _

set_option maxHeartbeats 1000000 in
theorem lastTerm_any (A : Option Addr) (n c : Nat) (es : List EH) (B : Nat) (w : World) (hn : es.length = n) (h : RowsB KE w B A es) (hl : n ≤ 1048576) (x : Int) (hx : x = lastT (es.map EH.d)) :
    Calls Try.prog 121 #[.slice A n c] w fun e w' => e = .returned (.int .i64 x) ∧ w = w' := by
  cases n with
  | zero =>
    rw [lastT_nil (by simp [hn])] at hx
    subst hx
    clear h
    go_enter Try.func121, Try.ntmps121
    go_wp2
    go_ret
    exact ⟨rfl, rfl⟩
  | succ m =>
    rw [lastT_at hn] at hx
    obtain ⟨b, off, rfl, hbB, hc⟩ := en_get h (by omega)
    have c0 := (hc m (by omega)).1
    rw [← hx] at c0
    have e0 : (((m + 1 : Nat) : Int) == 0) = false := by simp; omega
    have e1 : ((m + 1 : Nat) : Int) - 1 = (m : Int) := by omega
    clear hc hx h
    go_enter Try.func121, Try.ntmps121
    go_wp2
    go_ret
    exact ⟨rfl, rfl⟩

set_option maxHeartbeats 1000000 in
theorem l9Last_any (A : Option Addr) (n c : Nat) (es : List EH) (B : Nat) (w : World) (hn : es.length = n) (h : RowsB KE w B A es) (hl : n ≤ 1048576) (x : Int) (hx : x = lastT (es.map EH.d)) :
    Calls Try.prog 100 #[.slice A n c] w fun e w' => e = .returned (.int .i64 x) ∧ w = w' := by
  cases n with
  | zero =>
    rw [lastT_nil (by simp [hn])] at hx
    subst hx
    clear h
    go_enter Try.func100, Try.ntmps100
    go_wp2
    go_ret
    exact ⟨rfl, rfl⟩
  | succ m =>
    rw [lastT_at hn] at hx
    obtain ⟨b, off, rfl, hbB, hc⟩ := en_get h (by omega)
    have c0 := (hc m (by omega)).1
    rw [← hx] at c0
    have e0 : (((m + 1 : Nat) : Int) == 0) = false := by simp; omega
    have e1 : ((m + 1 : Nat) : Int) - 1 = (m : Int) := by omega
    clear hc hx h
    go_enter Try.func100, Try.ntmps100
    go_wp2
    go_ret
    exact ⟨rfl, rfl⟩

set_option maxHeartbeats 2000000 in
theorem isMoreRecent_any (A1 : Option Addr) (n1 c1 : Nat) (es1 : List EH) (A2 : Option Addr) (n2 c2 : Nat) (es2 : List EH) (B : Nat) (w : World) (hn1 : es1.length = n1) (h1 : RowsB KE w B A1 es1) (hl1 : n1 ≤ 1048576) (hn2 : es2.length = n2) (h2 : RowsB KE w B A2 es2) (hl2 : n2 ≤ 1048576) (r : Bool) (hr : r = moreB (es1.map EH.d) (es2.map EH.d)) :
    Calls Try.prog 103 #[.slice A1 n1 c1, .slice A2 n2 c2] w fun e w' => e = .returned (.bool r) ∧ w = w' := by
  obtain ⟨p, hp⟩ : ∃ p, p = lastT (es1.map EH.d) := ⟨_, rfl⟩
  obtain ⟨q, hq⟩ : ∃ q, q = lastT (es2.map EH.d) := ⟨_, rfl⟩
  have H1 := Lib.hid (lastTerm_any A1 n1 c1 es1 B w hn1 h1 hl1 p hp)
  have H2 := Lib.hid (lastTerm_any A2 n2 c2 es2 B w hn2 h2 hl2 q hq)
  unfold moreB at hr
  rw [← hp, ← hq, List.length_map, List.length_map, hn1, hn2] at hr
  clear hp hq hn1 hn2 h1 h2
  rcases Int.lt_trichotomy p q with hlt | heq | hgt
  · have hf : r = false := by rw [hr]; simp; omega
    subst hf
    have e1 : (p == q) = false := by simp; omega
    have e2 : decide (q < p) = false := by simp; omega
    have e3 : (p != q) = true := by simp; omega
    have e4 : ¬ q < p := by omega
    have e5 : ¬ p = q := by omega
    clear hr
    go_enter Try.func103, Try.ntmps103
    go_wp2_with fail
    refine H1.out.mono ?_
    rintro e w1 ⟨rfl, rfl⟩
    go_wp2_with fail
    refine H2.out.mono ?_
    rintro e w2 ⟨rfl, rfl⟩

    go_wp2
    go_ret
    exact ⟨rfl, rfl⟩
  · subst heq
    rcases Nat.lt_or_ge n2 n1 with hlt | hge
    · have hf : r = true := by rw [hr]; simp; omega
      subst hf
      have e6 : (n2 : Int) < (n1 : Int) := by omega
      clear hr
      go_enter Try.func103, Try.ntmps103
      go_wp2_with fail
      refine H1.out.mono ?_
      rintro e w1 ⟨rfl, rfl⟩
      go_wp2_with fail
      refine H2.out.mono ?_
      rintro e w2 ⟨rfl, rfl⟩
      go_wp2
      go_ret
      exact ⟨rfl, rfl⟩
    · have hf : r = false := by rw [hr]; simp; omega
      subst hf
      have e6 : ¬ (n2 : Int) < (n1 : Int) := by omega
      have e7 : decide ((n2 : Int) < (n1 : Int)) = false := by simp; omega
      have e8 : decide (n2 < n1) = false := by simp; omega
      clear hr
      go_enter Try.func103, Try.ntmps103
      go_wp2_with fail
      refine H1.out.mono ?_
      rintro e w1 ⟨rfl, rfl⟩
      go_wp2_with fail
      refine H2.out.mono ?_
      rintro e w2 ⟨rfl, rfl⟩
      go_wp2
      go_ret
      exact ⟨rfl, rfl⟩
  · have hf : r = true := by rw [hr]; simp; omega
    subst hf
    have e1 : (p == q) = false := by simp; omega
    have e2 : decide (q < p) = true := by simp; omega
    have e3 : (p != q) = true := by simp; omega
    have e5 : ¬ p = q := by omega
    clear hr
    go_enter Try.func103, Try.ntmps103
    go_wp2_with fail
    refine H1.out.mono ?_
    rintro e w1 ⟨rfl, rfl⟩
    go_wp2_with fail
    refine H2.out.mono ?_
    rintro e w2 ⟨rfl, rfl⟩

    go_wp2
    go_ret
    exact ⟨rfl, rfl⟩

set_option maxHeartbeats 2000000 in
theorem l9Later_any (A1 : Option Addr) (n1 c1 : Nat) (es1 : List EH) (A2 : Option Addr) (n2 c2 : Nat) (es2 : List EH) (B : Nat) (w : World) (hn1 : es1.length = n1) (h1 : RowsB KE w B A1 es1) (hl1 : n1 ≤ 1048576) (hn2 : es2.length = n2) (h2 : RowsB KE w B A2 es2) (hl2 : n2 ≤ 1048576) (r : Bool) (hr : r = moreB (es1.map EH.d) (es2.map EH.d)) :
    Calls Try.prog 63 #[.slice A1 n1 c1, .slice A2 n2 c2] w fun e w' => e = .returned (.bool r) ∧ w = w' := by
  obtain ⟨p, hp⟩ : ∃ p, p = lastT (es1.map EH.d) := ⟨_, rfl⟩
  obtain ⟨q, hq⟩ : ∃ q, q = lastT (es2.map EH.d) := ⟨_, rfl⟩
  have H1 := Lib.hid (l9Last_any A1 n1 c1 es1 B w hn1 h1 hl1 p hp)
  have H2 := Lib.hid (l9Last_any A2 n2 c2 es2 B w hn2 h2 hl2 q hq)
  unfold moreB at hr
  rw [← hp, ← hq, List.length_map, List.length_map, hn1, hn2] at hr
  clear hp hq hn1 hn2 h1 h2
  rcases Int.lt_trichotomy p q with hlt | heq | hgt
  · have hf : r = false := by rw [hr]; simp; omega
    subst hf
    have e1 : (p == q) = false := by simp; omega
    have e2 : decide (q < p) = false := by simp; omega
    have e3 : (p != q) = true := by simp; omega
    have e4 : ¬ q < p := by omega
    have e5 : ¬ p = q := by omega
    clear hr
    go_enter Try.func63, Try.ntmps63
    go_wp2_with fail
    refine H1.out.mono ?_
    rintro e w1 ⟨rfl, rfl⟩
    go_wp2_with fail
    refine H2.out.mono ?_
    rintro e w2 ⟨rfl, rfl⟩
    go_wp2_with fail
    refine H1.out.mono ?_
    rintro e w1 ⟨rfl, rfl⟩
    go_wp2_with fail
    refine H2.out.mono ?_
    rintro e w2 ⟨rfl, rfl⟩
    go_wp2
    go_ret
    exact ⟨rfl, rfl⟩
  · subst heq
    rcases Nat.lt_or_ge n2 n1 with hlt | hge
    · have hf : r = true := by rw [hr]; simp; omega
      subst hf
      have e6 : (n2 : Int) < (n1 : Int) := by omega
      clear hr
      go_enter Try.func63, Try.ntmps63
      go_wp2_with fail
      refine H1.out.mono ?_
      rintro e w1 ⟨rfl, rfl⟩
      go_wp2_with fail
      refine H2.out.mono ?_
      rintro e w2 ⟨rfl, rfl⟩
      go_wp2
      go_ret
      exact ⟨rfl, rfl⟩
    · have hf : r = false := by rw [hr]; simp; omega
      subst hf
      have e6 : ¬ (n2 : Int) < (n1 : Int) := by omega
      have e7 : decide ((n2 : Int) < (n1 : Int)) = false := by simp; omega
      have e8 : decide (n2 < n1) = false := by simp; omega
      clear hr
      go_enter Try.func63, Try.ntmps63
      go_wp2_with fail
      refine H1.out.mono ?_
      rintro e w1 ⟨rfl, rfl⟩
      go_wp2_with fail
      refine H2.out.mono ?_
      rintro e w2 ⟨rfl, rfl⟩
      go_wp2
      go_ret
      exact ⟨rfl, rfl⟩
  · have hf : r = true := by rw [hr]; simp; omega
    subst hf
    have e1 : (p == q) = false := by simp; omega
    have e2 : decide (q < p) = true := by simp; omega
    have e3 : (p != q) = true := by simp; omega
    have e5 : ¬ p = q := by omega
    clear hr
    go_enter Try.func63, Try.ntmps63
    go_wp2_with fail
    refine H1.out.mono ?_
    rintro e w1 ⟨rfl, rfl⟩
    go_wp2_with fail
    refine H2.out.mono ?_
    rintro e w2 ⟨rfl, rfl⟩
    go_wp2_with fail
    refine H1.out.mono ?_
    rintro e w1 ⟨rfl, rfl⟩
    go_wp2_with fail
    refine H2.out.mono ?_
    rintro e w2 ⟨rfl, rfl⟩
    go_wp2
    go_ret
    exact ⟨rfl, rfl⟩

theorem isMajority_any (a b : Nat) (w : World) (ha : a ≤ 1048576) (hb : b ≤ 1048576) :
    Calls Try.prog 120 #[.int .i64 (a : Int), .int .i64 (b : Int)] w fun e w' => e = .returned (.bool (decide (b < 2 * a))) ∧ w = w' := by
  by_cases h : b < 2 * a
  · rw [decide_eq_true h]
    have h1 : (b : Int) < 2 * (a : Int) := by omega
    go_enter Try.func120, Try.ntmps120
    go_wp2
    go_ret
    exact ⟨rfl, rfl⟩
  · rw [decide_eq_false h]
    have h1 : ¬ (b : Int) < 2 * (a : Int) := by omega
    have h2 : decide ((b : Int) < 2 * (a : Int)) = false := decide_eq_false h1
    go_enter Try.func120, Try.ntmps120
    go_wp2
    go_ret
    exact ⟨rfl, rfl⟩

set_option maxHeartbeats 2000000 in
theorem voteFn_any (up : Bool) (su : Int) (A1 : Option Addr) (n1 c1 : Nat) (es1 : List EH) (A2 : Option Addr) (n2 c2 pb : Nat) (es2 : List EH) (B : Nat) (w : World) (hn1 : es1.length = n1) (h1 : RowsB KE w B A1 es1) (hl1 : n1 ≤ 1048576) (hn2 : es2.length = n2) (h2 : RowsB KE w B A2 es2) (hl2 : n2 ≤ 1048576) (hB : B ≤ w.heap.size) (hp : w.cell? ⟨pb, 0, none⟩ = some (.slice A2 n2 c2)) (r : Bool) (hr : r = (up && !moreB (es1.map EH.d) (es2.map EH.d))) :
    Calls Try.prog 102 #[.agg #[.bool up, .slice A1 n1 c1, .int .i64 su], .pointer (some ⟨pb, 0, none⟩)] w fun e w' => e = .returned (.bool r) ∧ Below w.heap.size w w' := by
  have hb0 := below1 w (.cells #[.bool up, .slice A1 n1 c1, .int .i64 su] 59)
  obtain ⟨m, hm⟩ : ∃ m, m = moreB (es1.map EH.d) (es2.map EH.d) := ⟨_, rfl⟩
  have HM := Lib.hid (isMoreRecent_any A1 n1 c1 es1 A2 n2 c2 es2 B _ hn1 (h1.below (hb0.mono hB)) hl1 hn2 (h2.below (hb0.mono hB)) hl2 m hm)
  rw [← hm] at hr
  have hpl : pb < w.heap.size := by
    rcases Nat.lt_or_ge pb w.heap.size with h | h
    · exact h
    · simp [World.cell?, Array.getElem?_eq_none h] at hp
  have p0 := (hb0.cell (p := ⟨pb, 0, none⟩) hpl).trans hp
  have HB0 := Lib.hid hb0
  clear hm hn1 h1 hn2 h2 hb0 hp
  cases up with
  | false =>
    rw [Bool.false_and] at hr
    subst hr
    clear p0
    go_enter Try.func102, Try.ntmps102
    go_wp2
    go_ret
    exact ⟨rfl, HB0.out⟩
  | true =>
    rw [Bool.true_and] at hr
    subst hr
    go_enter Try.func102, Try.ntmps102
    go_wp2_with fail
    refine HM.out.mono ?_
    rintro e w1 ⟨rfl, rfl⟩
    go_wp2
    go_ret
    exact ⟨rfl, HB0.out⟩

set_option maxRecDepth 100000 in
set_option maxHeartbeats 4000000 in
theorem mostAre_any (A : Option Addr) (n c : Nat) (hs : List RH) (A2 : Option Addr) (n2 c2 pb : Nat) (es2 : List EH) (B : Nat) (w : World) (hn : hs.length = n) (h : RowsB KR w B A hs) (hl : n ≤ 1048576) (hls : ∀ x ∈ hs, x.es.length ≤ 1048576) (hn2 : es2.length = n2) (h2 : RowsB KE w B A2 es2) (hl2 : n2 ≤ 1048576) (hB : B ≤ w.heap.size) (hp : w.cell? ⟨pb, 0, none⟩ = some (.slice A2 n2 c2)) (r : Bool) (hr : r = decide (n < 2 * cntV (es2.map EH.d) (hs.map rdat))) :
    Calls Try.prog 101 #[.slice A n c, .func (Fn.func 102) #[] #[.pointer (some ⟨pb, 0, none⟩)]] w fun e w' => e = .returned (.bool r) ∧ Below w.heap.size w w' := by
  have hpl : pb < w.heap.size := by
    rcases Nat.lt_or_ge pb w.heap.size with h | h
    · exact h
    · simp [World.cell?, Array.getElem?_eq_none h] at hp
  obtain ⟨tot, htot⟩ : ∃ tot, tot = cntV (es2.map EH.d) (hs.map rdat) := ⟨_, rfl⟩
  rw [← htot] at hr
  have htl : tot ≤ n := by rw [htot, ← hn]; have := cntV_le (es2.map EH.d) (hs.map rdat); simpa using this
  have HMJ := Lib.hid (fun W => isMajority_any tot n W (by omega) hl)
  rw [← hr] at HMJ
  have HN := Lib.hid hn
  have HS := Lib.hid h
  have HLS := Lib.hid hls
  have HN2 := Lib.hid hn2
  have H2 := Lib.hid h2
  have HP := Lib.hid hp
  have HR0 := Lib.hid (show tot = 0 + cntV (es2.map EH.d) ((hs.map rdat).drop 0) by rw [htot]; simp)
  have HTL := Lib.hid htl
  clear hr htot hn h hls hn2 h2 hp htl
  go_enter Try.func101, Try.ntmps101
  go_wp2_with fail
  go_loopw [5, 10] (fun v j wr => ∃ (k a : Nat), k ≤ n ∧ a ≤ k ∧ j = .int .i64 k ∧ v = .int .i64 a ∧ Hid (tot = a + cntV (es2.map EH.d) ((hs.map rdat).drop k)) ∧ Below w.heap.size w wr) (fun _ j _ => n - (intOf j).toNat)
  case atStart => exact ⟨0, 0, by omega, by omega, rfl, rfl, HR0, Below.refl _ _⟩
  case round =>
    clear HR0
    obtain ⟨k, a, hk, hak, rfl, rfl, HR, hb⟩ := hrel
    by_cases hlt : k < n
    · obtain ⟨b, off, rfl, hbB, hc⟩ := rp_get HS.out (by have := HN.out; omega)
      have hkh : k < hs.length := by have := HN.out; omega
      obtain ⟨hc0, hc1, hc2⟩ := hc k hkh
      have p0 := (hb.cell (p := ⟨b, off + k * 3, none⟩) (Nat.lt_of_lt_of_le hbB hB)).trans hc0
      have p1 := (hb.cell (p := ⟨b, off + k * 3 + 1, none⟩) (Nat.lt_of_lt_of_le hbB hB)).trans hc1
      have p2 := (hb.cell (p := ⟨b, off + k * 3 + 2, none⟩) (Nat.lt_of_lt_of_le hbB hB)).trans hc2
      have HRS := Lib.hid (HR.out.trans (by rw [cntV_step (show k < (hs.map rdat).length by simpa using hkh), r_at hkh]))
      have HBr := Nat.le_trans hB hb.size
      have hrd := KR.rd_below (HS.out.at k hkh) (hb.mono hB)
      have hsm := HLS.out hs[k] (List.getElem_mem hkh)
      obtain ⟨y, hy⟩ : ∃ y, y = hs[k]'hkh := ⟨_, rfl⟩
      rw [← hy] at p0 p1 p2 hrd hsm HRS
      obtain ⟨up, su, Al, cl, es, rlo, rhi⟩ := y
      simp only [rdat, yesV] at p0 p1 p2 hrd hsm HRS
      have hbox := below1 wr (.cells #[.bool up, .slice Al es.length cl, .int .i64 su] 59)
      have hpw := ((hb.trans (hbox.mono hb.size)).cell (p := ⟨pb, 0, none⟩) hpl).trans HP.out
      obtain ⟨v, hv⟩ : ∃ v, v = (up && !moreB (es.map EH.d) (es2.map EH.d)) := ⟨_, rfl⟩
      have HF := Lib.hid (voteFn_any up su Al es.length cl es A2 n2 c2 pb es2 B (wr.alloc (.cells #[.bool up, .slice Al es.length cl, .int .i64 su] 59)) rfl (RowsB.below (K := KE) hrd (hbox.mono HBr)) hsm HN2.out (H2.out.below ((hb.trans (hbox.mono hb.size)).mono hB)) hl2 (Nat.le_trans HBr hbox.size) hpw v hv)
      rw [← hv] at HRS
      obtain ⟨nl, hvnl⟩ : ∃ nl, nl = es.length := ⟨_, rfl⟩
      rw [← hvnl] at p1 HF hbox
      have HBB := Lib.hid (hb.trans (hbox.mono hb.size))
      have hk0 : (0 : Int) ≤ (k : Int) := by omega
      have ha0 : (0 : Int) ≤ (a : Int) := by omega
      have hkn : (k : Int) < (n : Int) := by omega
      clear hc hc0 hc1 hc2 hy hrd hsm hv hvnl hb hbox HR HBr hpw
      go_wp2_with fail
      refine HF.out.mono ?_
      rintro e w1 ⟨rfl, ha1⟩
      have HB1 := Lib.hid (HBB.out.trans (ha1.mono HBB.out.size))
      clear ha1 p0 p1 p2
      cases v with
      | false =>
        go_wp2
        go_roundw
        case rel => exact ⟨k + 1, a, by omega, by omega, by go_num, rfl, Lib.hid (by have h9 := HRS.out; simp at h9; omega), HB1.out⟩
        case measure => simp [intOf]; omega
      | true =>
        go_wp2
        go_roundw
        case rel => exact ⟨k + 1, a + 1, by omega, by omega, by go_num, by go_num, Lib.hid (by have h9 := HRS.out; simp at h9; omega), HB1.out⟩
        case measure => simp [intOf]; omega
    · have hkn : k = n := by omega
      subst hkn
      have hta : tot = a := by have h9 := HR.out; rw [List.drop_of_length_le (by rw [List.length_map, HN.out]; exact Nat.le_refl _)] at h9; simpa [cntV] using h9
      subst hta
      have HBE := Lib.hid hb
      clear hb HR
      go_wp2_with fail
      refine (HMJ.out _).mono ?_
      rintro e w1 ⟨rfl, rfl⟩
      go_wp2
      go_ret
      exact ⟨rfl, HBE.out⟩
end Go.Proofs.Ytnmhigbnlpcedaa.Gr
