/-
  AskLock of the program.
-/
import Derived.Test.YtlfdefjkfacngaaLkF9
namespace Go.Proofs.Ytlfdefjkfacngaa.Lk
open Go.RowKit CM Nt
set_option linter.unusedVariables false
set_option linter.unusedSimpArgs false

theorem fixedTable_any (A : Option Addr) (n c : Nat) (w : World) :
    Calls Try.prog 53 #[.slice A n c] w fun e w' => e = .returned (.agg #[.slice A n c, .int .i64 20]) ∧ Below w.heap.size w w' := by
  go_enter Try.func53, Try.ntmps53
  go_wp2
  exact bodyPost_ret (v := .agg #[.slice A n c, .int .i64 20]) (by simp [results, Try.results53, go_sem]) rfl ⟨rfl, by first | exact below1 _ _ | exact below2 _ _ _ | exact ((below1 w _).setCell (p := ⟨w.heap.size, 0, none⟩) (Nat.le_refl _) _).setCell (p := ⟨w.heap.size, 1, none⟩) (Nat.le_refl _) _⟩
set_option maxRecDepth 100000 in
set_option maxHeartbeats 2000000 in
theorem hasOnlyI_any (A : Option Addr) (n c : Nat) (is : List Int) (B : Nat) (w : World) (hn : is.length = n) (h : IntsB w B A is) (hB : B ≤ w.heap.size) (hl : n ≤ 1048576) :
    Calls Try.prog 54 #[.agg #[.slice A n c, .int .i64 20], (.func (.func 55) #[] #[])] w fun e w' => e = .returned (.bool (decide (n ≤ 20) && txnB is)) ∧ Below w.heap.size w w' := by
  have HB0 := Lib.hid (below1 w (.cells #[.slice A n c, .int .i64 20] 74))
  have hge := Nat.le_of_eq hn
  have hle := Nat.le_of_eq hn.symm
  have HS := Lib.hid h
  clear hn h
  by_cases h20 : n ≤ 20
  · rw [show decide (n ≤ 20) = true by simpa using h20, Bool.true_and]
    have h20i : (n : Int) ≤ 20 := by omega
    obtain ⟨r, hr⟩ : ∃ r, r = txnB is := ⟨_, rfl⟩
    have HR := Lib.hid (show r = (is.drop 0).all fun h => inB h 1 60 from hr)
    rw [← hr]
    clear hr
    go_enter Try.func54, Try.ntmps54
    go_wp2
    go_loopw [6, 16] (fun v i wr => ∃ k : Nat, k ≤ n ∧ i = .int .i64 k ∧ Hid (r = (is.drop k).all fun h => inB h 1 60) ∧ Hid (Below w.heap.size w wr)) (fun _ i _ => n - (intOf i).toNat)
    case atStart => exact ⟨0, by omega, rfl, HR, HB0⟩
    case round =>
      clear HB0 HR
      obtain ⟨k, hk, rfl, HP, HB⟩ := hrel
      by_cases hlt : k < n
      · obtain ⟨b, off, rfl, hbB, hc⟩ := HS.out.get (by omega)
        have c0 := (HB.out.cell (p := ⟨b, off + k, none⟩) (Nat.lt_of_lt_of_le hbB hB)).trans (hc k (by omega))
        have hk0 : (0 : Int) ≤ (k : Int) := by omega
        have hkn : (k : Int) < (n : Int) := by omega
        have HRS := Lib.hid (HP.out.trans (all_stepL (show k < is.length by omega)))
        obtain ⟨y, hy⟩ : ∃ y, y = is[k]'(by omega) := ⟨_, rfl⟩
        rw [← hy] at c0 HRS
        have HC := Lib.hid (fun W => isTxnL_any y W)
        clear hc hy
        obtain ⟨r1, hr1⟩ : ∃ r, r = inB y 1 60 := ⟨_, rfl⟩
        rw [← hr1] at HC HRS
        clear hr1
        go_wp2_with fail
        refine (HC.out _).mono ?_
        rintro e w4 ⟨rfl, rfl⟩
        cases r1 with
        | true =>
          have HG := Lib.hid (show r = (is.drop (k + 1)).all fun h => inB h 1 60 by rw [HRS.out, Bool.true_and])
          go_wp2
          go_roundw
          case rel => exact ⟨k + 1, by omega, by go_num, HG, HB⟩
          case measure => simp [intOf]; omega
        | false =>
          have HF := Lib.hid (ret_bool (show false = r by rw [HRS.out]; rfl))
          go_wp2
          go_ret
          exact ⟨HF.out, HB.out⟩
      · have HF := Lib.hid (ret_bool (show true = r by rw [HP.out, List.drop_of_length_le (by omega)]; rfl))
        go_wp2
        go_ret
        exact ⟨HF.out, HB.out⟩
  · rw [show decide (n ≤ 20) = false by simpa using h20, Bool.false_and]
    have h20i : (20 : Int) < (n : Int) := by omega
    go_enter Try.func54, Try.ntmps54
    go_wp2
    go_ret
    exact ⟨rfl, HB0.out⟩
theorem containsIL_any (v : Int) (A : Option Addr) (n c : Nat) (is : List Int) (B : Nat) (w : World) (hn : is.length = n) (h : IntsB w B A is) (hl : n ≤ 1048576) :
    Calls Try.prog 57 #[.slice A n c, .int .i64 v] w fun e w' => e = .returned (.bool (is.contains v)) ∧ w = w' := by
  rcases Nat.eq_zero_or_pos n with h0 | h0
  · subst h0
    have e : is = [] := List.eq_nil_of_length_eq_zero hn
    subst e
    refine (Try.slices_Contains_int_empty A c v w).mono ?_
    rintro e w' ⟨rfl, rfl⟩
    exact ⟨rfl, rfl⟩
  · obtain ⟨b, off, rfl, hb, hc⟩ := h.get (by omega)
    refine (Try.slices_Contains_int b off n c is v w (by omega) (by omega) (fun j hj => by rw [hc j hj]; simp [List.getD, hj])).mono ?_
    rintro e w' ⟨rfl, rfl⟩
    exact ⟨by rw [List.take_of_length_le (by omega)], rfl⟩
set_option maxHeartbeats 1000000 in
theorem stays_any (s : ByteArray) (t : Int) (g : Bool) (v : Int) (px pf : Nat) (AF : Option Addr) (nf cf : Nat) (fs : List Int) (B : Nat) (w : World) (hp : w.cell? ⟨px, 1, none⟩ = some (.int .i64 t)) (hq : w.cell? ⟨pf, 0, none⟩ = some (.slice AF nf cf)) (hnf : fs.length = nf) (hf : IntsB w B AF fs) (hlf : nf ≤ 1048576) :
    Calls Try.prog 56 #[.int .i64 v, .pointer (some ⟨px, 0, none⟩), .pointer (some ⟨pf, 0, none⟩)] w fun e w' => e = .returned (.bool (askB (s, t, g) fs v)) ∧ Below w.heap.size w w' := by
  have HC := Lib.hid (containsIL_any v AF nf cf fs B w hnf hf hlf)
  unfold askB
  obtain ⟨rc, hrc⟩ : ∃ rc, rc = fs.contains v := ⟨_, rfl⟩
  rw [← hrc] at HC ⊢
  clear hrc
  by_cases h1 : v < t
  · rw [show decide (v < ((s, t, g) : LK).2.1) = true by simpa using h1, Bool.true_or]
    clear hf hnf
    go_enter Try.func56, Try.ntmps56
    go_wp2
    go_ret
    exact ⟨rfl, Below.refl _ _⟩
  · rw [show decide (v < ((s, t, g) : LK).2.1) = false by simpa using h1, Bool.false_or]
    have h1d : decide (v < t) = false := by simpa using h1
    clear hf hnf
    go_enter Try.func56, Try.ntmps56
    go_wp2_with fail
    refine HC.out.mono ?_
    rintro e w1 ⟨rfl, rfl⟩
    go_wp2
    go_ret
    exact ⟨rfl, Below.refl _ _⟩

set_option maxRecDepth 100000 in
set_option maxHeartbeats 2000000 in
theorem hasStay_any (s : ByteArray) (t : Int) (g : Bool) (px pf : Nat) (AF : Option Addr) (nf cf : Nat) (fs : List Int) (A : Option Addr) (n c : Nat) (is : List Int) (B : Nat) (w : World) (hp : w.cell? ⟨px, 1, none⟩ = some (.int .i64 t)) (hpx : px < w.heap.size) (hq : w.cell? ⟨pf, 0, none⟩ = some (.slice AF nf cf)) (hpf : pf < w.heap.size) (hnf : fs.length = nf) (hf : IntsB w B AF fs) (hlf : nf ≤ 1048576) (hn : is.length = n) (h : IntsB w B A is) (hB : B ≤ w.heap.size) (hl : n ≤ 1048576) :
    Calls Try.prog 58 #[.slice A n c, (.func (.func 56) #[] #[.pointer (some ⟨px, 0, none⟩), .pointer (some ⟨pf, 0, none⟩)])] w fun e w' => e = .returned (.bool (is.any (askB (s, t, g) fs))) ∧ Below w.heap.size w w' := by
  have HIX : Hid (Calls Try.prog 96 #[.slice A n c, (.func (.func 56) #[] #[.pointer (some ⟨px, 0, none⟩), .pointer (some ⟨pf, 0, none⟩)])] w fun e w' => ∃ r : Int, e = .returned (.int .i64 r) ∧ ((0 ≤ r ∧ is.any (askB (s, t, g) fs) = true) ∨ (r = -1 ∧ is.any (askB (s, t, g) fs) = false)) ∧ Below w.heap.size w w') := by
    unfold Hid
    have hge := Nat.le_of_eq hn
    have hle := Nat.le_of_eq hn.symm
    have HS := Lib.hid h
    have HC := Lib.hid (fun v W (hW : Below w.heap.size w W) => stays_any s t g v px pf AF nf cf fs B W ((hW.cell (p := ⟨px, 1, none⟩) hpx).trans hp) ((hW.cell (p := ⟨pf, 0, none⟩) hpf).trans hq) hnf (hf.below (hW.mono hB)) hlf)
    clear hn h hp hq hf hnf
    go_enter Try.func96, Try.ntmps96
    go_wp2
    go_loopw [8] (fun i wr => ∃ k : Nat, k ≤ n ∧ i = .int .i64 k ∧ Hid ((is.take k).any (askB (s, t, g) fs) = false) ∧ Hid (Below w.heap.size w wr)) (fun i _ => n - (intOf i).toNat)
    case atStart => exact ⟨0, by omega, rfl, Lib.hid rfl, Lib.hid (Below.refl _ _)⟩
    case round =>
      obtain ⟨k, hk, rfl, HP, HB⟩ := hrel
      by_cases hlt : k < n
      · obtain ⟨b, off, rfl, hbB, hc⟩ := HS.out.get (by omega)
        have c0 := (HB.out.cell (p := ⟨b, off + k, none⟩) (Nat.lt_of_lt_of_le hbB hB)).trans (hc k (by omega))
        have hk0 : (0 : Int) ≤ (k : Int) := by omega
        have hkn : (k : Int) < (n : Int) := by omega
        have HSU := Lib.hid (anyI_succ (p := askB (s, t, g) fs) (l := is) (k := k) (by omega) HP.out)
        have HYS := Lib.hid (show askB (s, t, g) fs (is[k]'(by omega)) = true → is.any (askB (s, t, g) fs) = true from fun h => List.any_eq_true.2 ⟨_, List.getElem_mem (by omega), h⟩)
        obtain ⟨y, hy⟩ : ∃ y, y = is[k]'(by omega) := ⟨_, rfl⟩
        rw [← hy] at c0 HSU HYS
        have HCY := Lib.hid (HC.out y _ HB.out)
        obtain ⟨r1, hr1⟩ : ∃ r, r = askB (s, t, g) fs y := ⟨_, rfl⟩
        rw [← hr1] at HCY HSU HYS
        clear hc hy hr1
        go_wp2_with fail
        refine HCY.out.mono ?_
        rintro e w4 ⟨rfl, hb4⟩
        have HB4 := Lib.hid (HB.out.trans (hb4.mono HB.out.size))
        clear hb4 c0
        cases r1 with
        | true =>
          have HF := Lib.hid (HYS.out rfl)
          go_wp2
          go_ret
          exact ⟨k, rfl, .inl ⟨hk0, HF.out⟩, HB4.out⟩
        | false =>
          have HG := Lib.hid (HSU.out rfl)
          go_wp2
          go_roundw
          case rel => exact ⟨k + 1, by omega, by go_num, HG, HB4⟩
          case measure => simp [intOf]; omega
      · have HF := Lib.hid (show is.any (askB (s, t, g) fs) = false by have := HP.out; rwa [List.take_of_length_le (by omega)] at this)
        go_wp2
        go_ret
        exact ⟨-1, rfl, .inr ⟨rfl, HF.out⟩, HB.out⟩
  clear h hf hp hq
  go_enter Try.func58, Try.ntmps58
  go_wp2_with fail
  refine HIX.out.mono ?_
  rintro e w4 ⟨r, rfl, hr, hb4⟩
  have HB4 := Lib.hid hb4
  clear hb4
  rcases hr with ⟨hk, hg⟩ | ⟨rfl, hg⟩
  · have HF := Lib.hid (ret_bool hg.symm)
    clear hg
    go_wp2
    go_ret
    exact ⟨HF.out, HB4.out⟩
  · have HF := Lib.hid (ret_bool hg.symm)
    clear hg
    go_wp2
    go_ret
    exact ⟨HF.out, HB4.out⟩

set_option maxRecDepth 100000 in
set_option maxHeartbeats 8000000 in
theorem implAskLock_any (s : ByteArray) (t : Int) (g : Bool) (A : Option Addr) (n c : Nat) (ls : List LK) (B : Nat) (w : World) (hn : ls.length = n) (hcp : n ≤ c) (h : LksB w B A ls) (hB : B ≤ w.heap.size) (hm : KSmall ls) (AF : Option Addr) (nf cf : Nat) (fs : List Int) (hnf : fs.length = nf) (hf : IntsB w B AF fs) (hlf : nf ≤ 1048576) (hs : s.size ≤ 1048576) :
    Calls Try.prog 14 #[.slice A n c, .slice AF nf cf, .agg #[.string s, .int .i64 t, .bool g]] w (NAPost (askA ls fs (s, t, g)) w) := by
  have HW := Lib.hid (fun W (hW : Below w.heap.size w W) => implWaitsFor_any s t g A n c ls B W hn hcp (h.below (hW.mono hB)) (Nat.le_trans hB hW.size) hm hs)
  unfold IAPost waitA at HW
  have HFT := Lib.hid (fun W => fixedTable_any AF nf cf W)
  have HFO := Lib.hid (fun W (hW : Below w.heap.size w W) => hasOnlyI_any AF nf cf fs B W hnf (hf.below (hW.mono hB)) (Nat.le_trans hB hW.size) hlf)
  have HB0 := Lib.hid (below2 w (.cells #[.slice AF nf cf] 25) (.cells #[.string s, .int .i64 t, .bool g] 27))
  have hf0 := ((below1 (w.alloc (.cells #[.slice AF nf cf] 25)) (.cells #[.string s, .int .i64 t, .bool g] 27)).block w.heap.size (by simp)).trans (heap_alloc_new w (.cells #[.slice AF nf cf] 25))
  have hx0 := alloc_snd w (.cells #[.slice AF nf cf] 25) (.cells #[.string s, .int .i64 t, .bool g] 27)
  have HFR := Lib.hid (fun W (hW : Below w.heap.size w W) => hf.below (hW.mono hB))
  have HNF := Lib.hid hnf
  have HWB := Lib.hid (show goodB ls = true → (waitsL ls (s, t, g)).length ≤ 60 from fun hgd => Nat.le_trans (waits_len _ _) (good_free hgd).1)
  have hnfi : (nf : Int) ≤ 1048576 := by omega
  change Calls Try.prog 14 #[.slice A n c, .slice AF nf cf, .agg #[.string s, .int .i64 t, .bool g]] w (NAPost (if goodB ls && (lkB (s, t, g) && (decide (fs.length ≤ 20) && txnB fs)) then (if (waitsL ls (s, t, g)).length = 0 then (1, [], true) else if (waitsL ls (s, t, g)).any (askB (s, t, g) fs) then (2, [], true) else (3, waitsL ls (s, t, g), true)) else (0, [], false)) w)
  rw [hnf, ← Bool.and_assoc]
  obtain ⟨r3, hr3⟩ : ∃ r, r = (decide (nf ≤ 20) && txnB fs) := ⟨_, rfl⟩
  rw [← hr3] at HFO ⊢
  clear hr3
  cases r1 : (goodB ls && lkB (s, t, g)) with
  | false =>
    simp only [r1, Bool.false_eq_true, if_false] at HW
    simp only [Bool.false_and, Bool.false_eq_true, if_false]
    clear h hf hn hm r1 hnf
    go_enter Try.func14, Try.ntmps14
    go_wp2_with fail
    refine (HW.out _ HB0.out).mono ?_
    rintro e w1 ⟨A1, c1, rfl, ho1, hb1⟩
    have HB1 := Lib.hid (HB0.out.trans (hb1.mono HB0.out.size))
    have hf1 := (hb1.block w.heap.size (lt_blk hf0)).trans hf0
    have hx1 := (hb1.block (w.heap.size + 1) (lt_blk hx0)).trans hx0
    have f10 : w1.cell? ⟨w.heap.size, 0, none⟩ = some (.slice AF nf cf) := cell_blk (i := 0) hf1 rfl
    have x10 : w1.cell? ⟨w.heap.size + 1, 0, none⟩ = some (.string s) := cell_blk (i := 0) hx1 rfl
    have x11 : w1.cell? ⟨w.heap.size + 1, 1, none⟩ = some (.int .i64 t) := cell_blk (i := 1) hx1 rfl
    have x12 : w1.cell? ⟨w.heap.size + 1, 2, none⟩ = some (.bool g) := cell_blk (i := 2) hx1 rfl
    have fl1 := lt_blk hf1
    have xl1 := lt_blk hx1
    have HO1 := Lib.hid (OwnI.wider ho1 HB0.out.size (Nat.le_refl _))
    clear hb1 ho1
    go_wp2
    exact bodyPost_ret (v := .tuple #[.int .i64 0, .slice none 0 0, .bool false]) (by simp [results, Try.results14, go_sem]) rfl ⟨none, 0, rfl, i_nil _ _ _, HB1.out⟩
  | true =>
    simp only [r1, if_true] at HW
    have hgd : goodB ls = true := by simp only [Bool.and_eq_true] at r1; exact r1.1
    have hwb := HWB.out hgd
    obtain ⟨wl, hwl⟩ : ∃ wl, wl = waitsL ls (s, t, g) := ⟨_, rfl⟩
    rw [← hwl] at HW hwb ⊢
    obtain ⟨q, hq⟩ : ∃ q, q = wl.length := ⟨_, rfl⟩
    have HQ := Lib.hid hq.symm
    rw [← hq] at HW hwb ⊢
    clear h hf hn hm r1 hnf hwl hq hgd HWB
    cases r3 with
    | false =>
      simp only [Bool.and_false, Bool.false_eq_true, if_false]
      go_enter Try.func14, Try.ntmps14
      go_wp2_with fail
      refine (HW.out _ HB0.out).mono ?_
      rintro e w1 ⟨A1, c1, rfl, ho1, hb1⟩
      have HB1 := Lib.hid (HB0.out.trans (hb1.mono HB0.out.size))
      have hf1 := (hb1.block w.heap.size (lt_blk hf0)).trans hf0
      have hx1 := (hb1.block (w.heap.size + 1) (lt_blk hx0)).trans hx0
      have f10 : w1.cell? ⟨w.heap.size, 0, none⟩ = some (.slice AF nf cf) := cell_blk (i := 0) hf1 rfl
      have x10 : w1.cell? ⟨w.heap.size + 1, 0, none⟩ = some (.string s) := cell_blk (i := 0) hx1 rfl
      have x11 : w1.cell? ⟨w.heap.size + 1, 1, none⟩ = some (.int .i64 t) := cell_blk (i := 1) hx1 rfl
      have x12 : w1.cell? ⟨w.heap.size + 1, 2, none⟩ = some (.bool g) := cell_blk (i := 2) hx1 rfl
      have fl1 := lt_blk hf1
      have xl1 := lt_blk hx1
      have HO1 := Lib.hid (OwnI.wider ho1 HB0.out.size (Nat.le_refl _))
      clear hb1 ho1
      go_wp2_with fail
      refine (HFT.out _).mono ?_
      rintro e w2 ⟨rfl, hb2⟩
      have HB2 := Lib.hid (HB1.out.trans (hb2.mono HB1.out.size))
      have hf2 := (hb2.block w.heap.size (lt_blk hf1)).trans hf1
      have hx2 := (hb2.block (w.heap.size + 1) (lt_blk hx1)).trans hx1
      have f20 : w2.cell? ⟨w.heap.size, 0, none⟩ = some (.slice AF nf cf) := cell_blk (i := 0) hf2 rfl
      have x20 : w2.cell? ⟨w.heap.size + 1, 0, none⟩ = some (.string s) := cell_blk (i := 0) hx2 rfl
      have x21 : w2.cell? ⟨w.heap.size + 1, 1, none⟩ = some (.int .i64 t) := cell_blk (i := 1) hx2 rfl
      have x22 : w2.cell? ⟨w.heap.size + 1, 2, none⟩ = some (.bool g) := cell_blk (i := 2) hx2 rfl
      have fl2 := lt_blk hf2
      have xl2 := lt_blk hx2
      have HO2 := Lib.hid (own_growI HO1.out hb2)
      clear hb2 f10 x10 x11 x12 fl1 xl1
      go_wp2_with fail
      refine (HFO.out _ HB2.out).mono ?_
      rintro e w3 ⟨rfl, hb3⟩
      have HB3 := Lib.hid (HB2.out.trans (hb3.mono HB2.out.size))
      have hf3 := (hb3.block w.heap.size (lt_blk hf2)).trans hf2
      have hx3 := (hb3.block (w.heap.size + 1) (lt_blk hx2)).trans hx2
      have f30 : w3.cell? ⟨w.heap.size, 0, none⟩ = some (.slice AF nf cf) := cell_blk (i := 0) hf3 rfl
      have x30 : w3.cell? ⟨w.heap.size + 1, 0, none⟩ = some (.string s) := cell_blk (i := 0) hx3 rfl
      have x31 : w3.cell? ⟨w.heap.size + 1, 1, none⟩ = some (.int .i64 t) := cell_blk (i := 1) hx3 rfl
      have x32 : w3.cell? ⟨w.heap.size + 1, 2, none⟩ = some (.bool g) := cell_blk (i := 2) hx3 rfl
      have fl3 := lt_blk hf3
      have xl3 := lt_blk hx3
      have HO3 := Lib.hid (own_growI HO2.out hb3)
      clear hb3 f20 x20 x21 x22 fl2 xl2
      go_wp2
      exact bodyPost_ret (v := .tuple #[.int .i64 0, .slice none 0 0, .bool false]) (by simp [results, Try.results14, go_sem]) rfl ⟨none, 0, rfl, i_nil _ _ _, HB3.out⟩
    | true =>
      simp only [Bool.and_true, if_true]
      by_cases h0 : q = 0
      · subst h0
        simp only [if_true]
        go_enter Try.func14, Try.ntmps14
        go_wp2_with fail
        refine (HW.out _ HB0.out).mono ?_
        rintro e w1 ⟨A1, c1, rfl, ho1, hb1⟩
        have HB1 := Lib.hid (HB0.out.trans (hb1.mono HB0.out.size))
        have hf1 := (hb1.block w.heap.size (lt_blk hf0)).trans hf0
        have hx1 := (hb1.block (w.heap.size + 1) (lt_blk hx0)).trans hx0
        have f10 : w1.cell? ⟨w.heap.size, 0, none⟩ = some (.slice AF nf cf) := cell_blk (i := 0) hf1 rfl
        have x10 : w1.cell? ⟨w.heap.size + 1, 0, none⟩ = some (.string s) := cell_blk (i := 0) hx1 rfl
        have x11 : w1.cell? ⟨w.heap.size + 1, 1, none⟩ = some (.int .i64 t) := cell_blk (i := 1) hx1 rfl
        have x12 : w1.cell? ⟨w.heap.size + 1, 2, none⟩ = some (.bool g) := cell_blk (i := 2) hx1 rfl
        have fl1 := lt_blk hf1
        have xl1 := lt_blk hx1
        have HO1 := Lib.hid (OwnI.wider ho1 HB0.out.size (Nat.le_refl _))
        clear hb1 ho1
        go_wp2_with fail
        refine (HFT.out _).mono ?_
        rintro e w2 ⟨rfl, hb2⟩
        have HB2 := Lib.hid (HB1.out.trans (hb2.mono HB1.out.size))
        have hf2 := (hb2.block w.heap.size (lt_blk hf1)).trans hf1
        have hx2 := (hb2.block (w.heap.size + 1) (lt_blk hx1)).trans hx1
        have f20 : w2.cell? ⟨w.heap.size, 0, none⟩ = some (.slice AF nf cf) := cell_blk (i := 0) hf2 rfl
        have x20 : w2.cell? ⟨w.heap.size + 1, 0, none⟩ = some (.string s) := cell_blk (i := 0) hx2 rfl
        have x21 : w2.cell? ⟨w.heap.size + 1, 1, none⟩ = some (.int .i64 t) := cell_blk (i := 1) hx2 rfl
        have x22 : w2.cell? ⟨w.heap.size + 1, 2, none⟩ = some (.bool g) := cell_blk (i := 2) hx2 rfl
        have fl2 := lt_blk hf2
        have xl2 := lt_blk hx2
        have HO2 := Lib.hid (own_growI HO1.out hb2)
        clear hb2 f10 x10 x11 x12 fl1 xl1
        go_wp2_with fail
        refine (HFO.out _ HB2.out).mono ?_
        rintro e w3 ⟨rfl, hb3⟩
        have HB3 := Lib.hid (HB2.out.trans (hb3.mono HB2.out.size))
        have hf3 := (hb3.block w.heap.size (lt_blk hf2)).trans hf2
        have hx3 := (hb3.block (w.heap.size + 1) (lt_blk hx2)).trans hx2
        have f30 : w3.cell? ⟨w.heap.size, 0, none⟩ = some (.slice AF nf cf) := cell_blk (i := 0) hf3 rfl
        have x30 : w3.cell? ⟨w.heap.size + 1, 0, none⟩ = some (.string s) := cell_blk (i := 0) hx3 rfl
        have x31 : w3.cell? ⟨w.heap.size + 1, 1, none⟩ = some (.int .i64 t) := cell_blk (i := 1) hx3 rfl
        have x32 : w3.cell? ⟨w.heap.size + 1, 2, none⟩ = some (.bool g) := cell_blk (i := 2) hx3 rfl
        have fl3 := lt_blk hf3
        have xl3 := lt_blk hx3
        have HO3 := Lib.hid (own_growI HO2.out hb3)
        clear hb3 f20 x20 x21 x22 fl2 xl2
        go_wp2
        exact bodyPost_ret (v := .tuple #[.int .i64 1, .slice none 0 0, .bool true]) (by simp [results, Try.results14, go_sem]) rfl ⟨none, 0, rfl, i_nil _ _ _, HB3.out⟩
      · simp only [h0, if_false]
        have h0i : ((q : Int) == 0) = false := by simp; omega
        have h0d : decide ((q : Int) = 0) = false := by simp; omega
        obtain ⟨r4, hr4⟩ : ∃ r4, r4 = wl.any (askB (s, t, g) fs) := ⟨_, rfl⟩
        have HR4 := Lib.hid hr4.symm
        rw [← hr4]
        clear hr4
        cases r4 with
        | true =>
          simp only [if_true]
          go_enter Try.func14, Try.ntmps14
          go_wp2_with fail
          refine (HW.out _ HB0.out).mono ?_
          rintro e w1 ⟨A1, c1, rfl, ho1, hb1⟩
          have HB1 := Lib.hid (HB0.out.trans (hb1.mono HB0.out.size))
          have hf1 := (hb1.block w.heap.size (lt_blk hf0)).trans hf0
          have hx1 := (hb1.block (w.heap.size + 1) (lt_blk hx0)).trans hx0
          have f10 : w1.cell? ⟨w.heap.size, 0, none⟩ = some (.slice AF nf cf) := cell_blk (i := 0) hf1 rfl
          have x10 : w1.cell? ⟨w.heap.size + 1, 0, none⟩ = some (.string s) := cell_blk (i := 0) hx1 rfl
          have x11 : w1.cell? ⟨w.heap.size + 1, 1, none⟩ = some (.int .i64 t) := cell_blk (i := 1) hx1 rfl
          have x12 : w1.cell? ⟨w.heap.size + 1, 2, none⟩ = some (.bool g) := cell_blk (i := 2) hx1 rfl
          have fl1 := lt_blk hf1
          have xl1 := lt_blk hx1
          have HO1 := Lib.hid (OwnI.wider ho1 HB0.out.size (Nat.le_refl _))
          clear hb1 ho1
          go_wp2_with fail
          refine (HFT.out _).mono ?_
          rintro e w2 ⟨rfl, hb2⟩
          have HB2 := Lib.hid (HB1.out.trans (hb2.mono HB1.out.size))
          have hf2 := (hb2.block w.heap.size (lt_blk hf1)).trans hf1
          have hx2 := (hb2.block (w.heap.size + 1) (lt_blk hx1)).trans hx1
          have f20 : w2.cell? ⟨w.heap.size, 0, none⟩ = some (.slice AF nf cf) := cell_blk (i := 0) hf2 rfl
          have x20 : w2.cell? ⟨w.heap.size + 1, 0, none⟩ = some (.string s) := cell_blk (i := 0) hx2 rfl
          have x21 : w2.cell? ⟨w.heap.size + 1, 1, none⟩ = some (.int .i64 t) := cell_blk (i := 1) hx2 rfl
          have x22 : w2.cell? ⟨w.heap.size + 1, 2, none⟩ = some (.bool g) := cell_blk (i := 2) hx2 rfl
          have fl2 := lt_blk hf2
          have xl2 := lt_blk hx2
          have HO2 := Lib.hid (own_growI HO1.out hb2)
          clear hb2 f10 x10 x11 x12 fl1 xl1
          go_wp2_with fail
          refine (HFO.out _ HB2.out).mono ?_
          rintro e w3 ⟨rfl, hb3⟩
          have HB3 := Lib.hid (HB2.out.trans (hb3.mono HB2.out.size))
          have hf3 := (hb3.block w.heap.size (lt_blk hf2)).trans hf2
          have hx3 := (hb3.block (w.heap.size + 1) (lt_blk hx2)).trans hx2
          have f30 : w3.cell? ⟨w.heap.size, 0, none⟩ = some (.slice AF nf cf) := cell_blk (i := 0) hf3 rfl
          have x30 : w3.cell? ⟨w.heap.size + 1, 0, none⟩ = some (.string s) := cell_blk (i := 0) hx3 rfl
          have x31 : w3.cell? ⟨w.heap.size + 1, 1, none⟩ = some (.int .i64 t) := cell_blk (i := 1) hx3 rfl
          have x32 : w3.cell? ⟨w.heap.size + 1, 2, none⟩ = some (.bool g) := cell_blk (i := 2) hx3 rfl
          have fl3 := lt_blk hf3
          have xl3 := lt_blk hx3
          have HO3 := Lib.hid (own_growI HO2.out hb3)
          clear hb3 f20 x20 x21 x22 fl2 xl2
          have HST := Lib.hid (hasStay_any s t g (w.heap.size + 1) w.heap.size AF nf cf fs A1 q c1 wl w3.heap.size w3 x31 xl3 f30 fl3 HNF.out ((HFR.out w3 HB3.out).mono (Nat.le_trans hB HB3.out.size)) hlf HQ.out HO3.out.ints (Nat.le_refl _) (by omega))
          rw [HR4.out] at HST
          go_wp2_with fail
          refine HST.out.mono ?_
          rintro e w4 ⟨rfl, hb4⟩
          have HB4 := Lib.hid (HB3.out.trans (hb4.mono HB3.out.size))
          have HO4 := Lib.hid (own_growI HO3.out hb4)
          clear hb4
          go_wp2
          exact bodyPost_ret (v := .tuple #[.int .i64 2, .slice none 0 0, .bool true]) (by simp [results, Try.results14, go_sem]) rfl ⟨none, 0, rfl, i_nil _ _ _, HB4.out⟩
        | false =>
          simp only [Bool.false_eq_true, if_false]
          go_enter Try.func14, Try.ntmps14
          go_wp2_with fail
          refine (HW.out _ HB0.out).mono ?_
          rintro e w1 ⟨A1, c1, rfl, ho1, hb1⟩
          have HB1 := Lib.hid (HB0.out.trans (hb1.mono HB0.out.size))
          have hf1 := (hb1.block w.heap.size (lt_blk hf0)).trans hf0
          have hx1 := (hb1.block (w.heap.size + 1) (lt_blk hx0)).trans hx0
          have f10 : w1.cell? ⟨w.heap.size, 0, none⟩ = some (.slice AF nf cf) := cell_blk (i := 0) hf1 rfl
          have x10 : w1.cell? ⟨w.heap.size + 1, 0, none⟩ = some (.string s) := cell_blk (i := 0) hx1 rfl
          have x11 : w1.cell? ⟨w.heap.size + 1, 1, none⟩ = some (.int .i64 t) := cell_blk (i := 1) hx1 rfl
          have x12 : w1.cell? ⟨w.heap.size + 1, 2, none⟩ = some (.bool g) := cell_blk (i := 2) hx1 rfl
          have fl1 := lt_blk hf1
          have xl1 := lt_blk hx1
          have HO1 := Lib.hid (OwnI.wider ho1 HB0.out.size (Nat.le_refl _))
          clear hb1 ho1
          go_wp2_with fail
          refine (HFT.out _).mono ?_
          rintro e w2 ⟨rfl, hb2⟩
          have HB2 := Lib.hid (HB1.out.trans (hb2.mono HB1.out.size))
          have hf2 := (hb2.block w.heap.size (lt_blk hf1)).trans hf1
          have hx2 := (hb2.block (w.heap.size + 1) (lt_blk hx1)).trans hx1
          have f20 : w2.cell? ⟨w.heap.size, 0, none⟩ = some (.slice AF nf cf) := cell_blk (i := 0) hf2 rfl
          have x20 : w2.cell? ⟨w.heap.size + 1, 0, none⟩ = some (.string s) := cell_blk (i := 0) hx2 rfl
          have x21 : w2.cell? ⟨w.heap.size + 1, 1, none⟩ = some (.int .i64 t) := cell_blk (i := 1) hx2 rfl
          have x22 : w2.cell? ⟨w.heap.size + 1, 2, none⟩ = some (.bool g) := cell_blk (i := 2) hx2 rfl
          have fl2 := lt_blk hf2
          have xl2 := lt_blk hx2
          have HO2 := Lib.hid (own_growI HO1.out hb2)
          clear hb2 f10 x10 x11 x12 fl1 xl1
          go_wp2_with fail
          refine (HFO.out _ HB2.out).mono ?_
          rintro e w3 ⟨rfl, hb3⟩
          have HB3 := Lib.hid (HB2.out.trans (hb3.mono HB2.out.size))
          have hf3 := (hb3.block w.heap.size (lt_blk hf2)).trans hf2
          have hx3 := (hb3.block (w.heap.size + 1) (lt_blk hx2)).trans hx2
          have f30 : w3.cell? ⟨w.heap.size, 0, none⟩ = some (.slice AF nf cf) := cell_blk (i := 0) hf3 rfl
          have x30 : w3.cell? ⟨w.heap.size + 1, 0, none⟩ = some (.string s) := cell_blk (i := 0) hx3 rfl
          have x31 : w3.cell? ⟨w.heap.size + 1, 1, none⟩ = some (.int .i64 t) := cell_blk (i := 1) hx3 rfl
          have x32 : w3.cell? ⟨w.heap.size + 1, 2, none⟩ = some (.bool g) := cell_blk (i := 2) hx3 rfl
          have fl3 := lt_blk hf3
          have xl3 := lt_blk hx3
          have HO3 := Lib.hid (own_growI HO2.out hb3)
          clear hb3 f20 x20 x21 x22 fl2 xl2
          have HST := Lib.hid (hasStay_any s t g (w.heap.size + 1) w.heap.size AF nf cf fs A1 q c1 wl w3.heap.size w3 x31 xl3 f30 fl3 HNF.out ((HFR.out w3 HB3.out).mono (Nat.le_trans hB HB3.out.size)) hlf HQ.out HO3.out.ints (Nat.le_refl _) (by omega))
          rw [HR4.out] at HST
          go_wp2_with fail
          refine HST.out.mono ?_
          rintro e w4 ⟨rfl, hb4⟩
          have HB4 := Lib.hid (HB3.out.trans (hb4.mono HB3.out.size))
          have HO4 := Lib.hid (own_growI HO3.out hb4)
          clear hb4
          have HF := Lib.hid (show NAPost (3, wl, true) w (.returned (.tuple #[.int .i64 3, .slice A1 q c1, .bool true])) w4 from ⟨A1, c1, by rw [HQ.out], HO4.out, HB4.out⟩)
          go_wp2
          exact bodyPost_ret (v := .tuple #[.int .i64 3, .slice A1 q c1, .bool true]) (by simp [results, Try.results14, go_sem]) rfl HF.out
end Go.Proofs.Ytlfdefjkfacngaa.Lk
