/-
  AskLock, of the model and of the program.
-/
import Derived.Test.YtlfdefjkfacngaaLkF5
namespace Go.Proofs.Ytlfdefjkfacngaa.Lk
open Go.RowKit CM Nt
set_option linter.unusedVariables false
set_option linter.unusedSimpArgs false

def askB (x : LK) (fs : List Int) (v : Int) : Bool := decide (v < x.2.1) || fs.contains v
def txnB (fs : List Int) : Bool := fs.all fun h => inB h 1 60
def askA (ls : List LK) (fs : List Int) (x : LK) : Int × List Int × Bool :=
  if goodB ls && (lkB x && (decide (fs.length ≤ 20) && txnB fs)) then
    if (waitsL ls x).length = 0 then (1, [], true) else if (waitsL ls x).any (askB x fs) then (2, [], true) else (3, waitsL ls x, true)
  else (0, [], false)
theorem askA_len (ls : List LK) (fs : List Int) (x : LK) : (askA ls fs x).2.1.length ≤ ls.length := by
  unfold askA
  split
  · split
    · simp
    · split
      · simp
      · exact waits_len ls x
  · simp
/-- A code, numbers and a bool as an answer. -/
def NAPost (a : Int × List Int × Bool) (w : World) (e : Ending) (w' : World) : Prop :=
  ∃ A c, e = .returned (.tuple #[.int .i64 a.1, .slice A a.2.1.length c, .bool a.2.2]) ∧ OwnI w' w.heap.size w'.heap.size A c a.2.1 ∧ Below w.heap.size w w'
theorem NAPost_un (cd : Int) (al : List Int) (ok : Bool) (w : World) : NAPost (cd, al, ok) w = fun e w' => ∃ A c, e = .returned (.tuple #[.int .i64 cd, .slice A al.length c, .bool ok]) ∧ OwnI w' w.heap.size w'.heap.size A c al ∧ Below w.heap.size w w' := rfl
theorem all_stepL {is : List Int} {k : Nat} (hk : k < is.length) : (is.drop k).all (fun h => inB h 1 60) = (inB is[k] 1 60 && (is.drop (k + 1)).all fun h => inB h 1 60) := by
  rw [List.drop_eq_getElem_cons hk, List.all_cons]

set_option maxRecDepth 100000 in
set_option maxHeartbeats 1000000 in
theorem l1AllL_any (A : Option Addr) (n c : Nat) (is : List Int) (B : Nat) (w : World) (hn : is.length = n) (h : IntsB w B A is) (hl : n ≤ 1048576) :
    Calls Try.prog 60 #[.slice A n c, .int .i64 1, .int .i64 60] w fun e w' => e = .returned (.bool (is.all fun h => inB h 1 60)) ∧ w = w' := by
  have HN := Lib.hid hn
  have hge := Nat.le_of_eq hn
  have hle := Nat.le_of_eq hn.symm
  have HS := Lib.hid h
  obtain ⟨r, hr⟩ : ∃ r, r = is.all fun h => inB h 1 60 := ⟨_, rfl⟩
  have HR := Lib.hid (show r = (is.drop 0).all fun h => inB h 1 60 from hr)
  rw [← hr]
  clear hn h hr
  go_enter Try.func60, Try.ntmps60
  go_wp2
  go_loopw [8, 11] (fun v i wr => ∃ k : Nat, k ≤ n ∧ i = .int .i64 k ∧ Hid (r = (is.drop k).all fun h => inB h 1 60) ∧ w = wr) (fun _ i _ => n - (intOf i).toNat)
  case atStart => exact ⟨0, by omega, rfl, HR, rfl⟩
  case round =>
    clear HR
    obtain ⟨k, hk, rfl, HR, rfl⟩ := hrel
    by_cases hlt : k < n
    · obtain ⟨b, off, rfl, hbB, hc⟩ := HS.out.get (by omega)
      have c0 := hc k (by omega)
      have HRS := Lib.hid (HR.out.trans (all_stepL (show k < is.length by omega)))
      obtain ⟨y, hy⟩ : ∃ y, y = is[k]'(by omega) := ⟨_, rfl⟩
      rw [← hy] at c0 HRS
      have hk0 : (0 : Int) ≤ (k : Int) := by omega
      have hkn : (k : Int) < (n : Int) := by omega
      have HC := Lib.hid (fun W => l1In_any y 1 60 W)
      clear hc hy HR
      cases h1 : inB y 1 60 with
      | false =>
        have HNO := Lib.hid (ret_bool (show false = r by rw [HRS.out, h1]; rfl))
        rw [h1] at HC
        clear h1 HRS
        go_wp2_with fail
        refine (HC.out _).mono ?_
        rintro e w4 ⟨rfl, rfl⟩
        go_wp2
        go_ret
        exact ⟨HNO.out, rfl⟩
      | true =>
        have HR2 := Lib.hid (show r = (is.drop (k + 1)).all fun h => inB h 1 60 by rw [HRS.out, h1, Bool.true_and])
        rw [h1] at HC
        clear h1 HRS
        go_wp2_with fail
        refine (HC.out _).mono ?_
        rintro e w4 ⟨rfl, rfl⟩
        go_wp2
        go_roundw
        case rel => exact ⟨k + 1, by omega, by go_num, HR2, by trivial⟩
        case measure => simp [intOf]; omega
    · have HYES := Lib.hid (ret_bool (show true = r by rw [HR.out, List.drop_of_length_le (by omega)]; rfl))
      go_wp2
      go_ret
      exact ⟨HYES.out, rfl⟩


set_option maxRecDepth 100000 in
set_option maxHeartbeats 1000000 in
theorem l1HasL_any (x : Int) (A : Option Addr) (n c : Nat) (is : List Int) (B : Nat) (w : World) (hn : is.length = n) (h : IntsB w B A is) (hl : n ≤ 1048576) :
    Calls Try.prog 99 #[.slice A n c, .int .i64 x] w fun e w' => e = .returned (.bool (is.contains x)) ∧ w = w' := by
  have hge := Nat.le_of_eq hn
  have hle := Nat.le_of_eq hn.symm
  have HS := Lib.hid h
  obtain ⟨r, hr⟩ : ∃ r, r = is.contains x := ⟨_, rfl⟩
  have HR := Lib.hid (show r = (is.drop 0).contains x from hr)
  rw [← hr]
  clear hn h hr
  go_enter Try.func99, Try.ntmps99
  go_wp2
  go_loopw [6, 9] (fun v i wr => ∃ k : Nat, k ≤ n ∧ i = .int .i64 k ∧ Hid (r = (is.drop k).contains x) ∧ w = wr) (fun _ i _ => n - (intOf i).toNat)
  case atStart => exact ⟨0, by omega, rfl, HR, rfl⟩
  case round =>
    clear HR
    obtain ⟨k, hk, rfl, HR, rfl⟩ := hrel
    by_cases hlt : k < n
    · obtain ⟨b, off, rfl, hbB, hc⟩ := HS.out.get (by omega)
      have c0 := hc k (by omega)
      have HRS := Lib.hid (show r = (x == is[k]'(by omega) || (is.drop (k + 1)).contains x) by rw [HR.out, List.drop_eq_getElem_cons (by omega), List.contains_cons])
      obtain ⟨y, hy⟩ : ∃ y, y = is[k]'(by omega) := ⟨_, rfl⟩
      rw [← hy] at c0 HRS
      have hk0 : (0 : Int) ≤ (k : Int) := by omega
      have hkn : (k : Int) < (n : Int) := by omega
      clear hc hy HR
      by_cases h1 : y = x
      · subst h1
        have HF := Lib.hid (ret_bool (show true = r by rw [HRS.out]; simp))
        clear HRS
        go_wp2
        go_ret
        exact ⟨HF.out, rfl⟩
      · have h1q : (y == x) = false := by simp [h1]
        have h1d : decide (y = x) = false := by simp [h1]
        have HR2 := Lib.hid (show r = (is.drop (k + 1)).contains x by rw [HRS.out, show (x == y) = false by simp; exact fun h => h1 h.symm]; simp)
        clear HRS
        go_wp2
        go_roundw
        case rel => exact ⟨k + 1, by omega, by go_num, HR2, by trivial⟩
        case measure => simp [intOf]; omega
    · have HF := Lib.hid (ret_bool (show false = r by rw [HR.out, List.drop_of_length_le (by omega)]; rfl))
      go_wp2
      go_ret
      exact ⟨HF.out, rfl⟩
theorem anyI_succ {p : Int → Bool} {l : List Int} {k : Nat} (hk : k < l.length) (h : (l.take k).any p = false) (h1 : p l[k] = false) : (l.take (k + 1)).any p = false := by
  rw [List.take_succ_eq_append_getElem hk, List.any_append, h]; simp [h1]
/-- A code and numbers as an answer. -/
def NRPost (a : Int × List Int) (w : World) (e : Ending) (w' : World) : Prop :=
  ∃ A c, e = .returned (.tuple #[.int .i64 a.1, .slice A a.2.length c]) ∧ OwnI w' w.heap.size w'.heap.size A c a.2 ∧ Below w.heap.size w w'
def askR (wl : List Int) (fs : List Int) (x : LK) : Int × List Int := if wl.length = 0 then (1, []) else if wl.any (askB x fs) then (2, []) else (3, wl)

set_option maxRecDepth 100000 in
set_option maxHeartbeats 4000000 in
theorem l12Ask_any (s : ByteArray) (t : Int) (g : Bool) (A : Option Addr) (n c : Nat) (ls : List LK) (B : Nat) (w : World) (hn : ls.length = n) (hcp : n ≤ c) (h : LksB w B A ls) (hB : B ≤ w.heap.size) (hm : KSmall ls) (AF : Option Addr) (nf cf : Nat) (fs : List Int) (hnf : fs.length = nf) (hf : IntsB w B AF fs) (hlf : nf ≤ 1048576) (hgd : goodB ls = true) :
    Calls Try.prog 62 #[.slice A n c, .slice AF nf cf, .agg #[.string s, .int .i64 t, .bool g]] w (NRPost (askR (waitsL ls (s, t, g)) fs (s, t, g)) w) := by
  have HW := Lib.hid (fun W (hW : Below w.heap.size w W) => l12Waits_any s t g A n c ls B W hn hcp (h.below (hW.mono hB)) (Nat.le_trans hB hW.size) hm)
  unfold IRPost at HW
  rw [waits_fold hgd] at HW
  have HB0 := Lib.hid (below1 w (.cells #[.string s, .int .i64 t, .bool g] 27))
  have hk0 := heap_alloc_new w (.cells #[.string s, .int .i64 t, .bool g] 27)
  have HH := Lib.hid (fun v W (hW : Below w.heap.size w W) => l1HasL_any v AF nf cf fs B W hnf (hf.below (hW.mono hB)) hlf)
  obtain ⟨wl, hwl⟩ : ∃ wl, wl = waitsL ls (s, t, g) := ⟨_, rfl⟩
  have hqb : wl.length ≤ 60 := by rw [hwl]; exact Nat.le_trans (waits_len _ _) (good_free hgd).1
  rw [← hwl] at HW ⊢
  obtain ⟨q, hq⟩ : ∃ q, q = wl.length := ⟨_, rfl⟩
  have HQ := Lib.hid hq.symm
  rw [← hq] at hqb
  unfold askR
  rw [← hq]
  clear hwl h hf hn hm hnf hq
  by_cases h0 : q = 0
  · subst h0
    simp only [if_true]
    go_enter Try.func62, Try.ntmps62
    go_wp2_with fail
    refine (HW.out _ HB0.out).mono ?_
    rintro e w1 ⟨A1, c1, rfl, ho1, hb1⟩
    rw [HQ.out]
    have HB1 := Lib.hid (HB0.out.trans (hb1.mono HB0.out.size))
    have hk1 := (hb1.block w.heap.size (lt_blk hk0)).trans hk0
    have HO1 := Lib.hid (OwnI.wider ho1 HB0.out.size (Nat.le_refl _))
    clear hb1 ho1
    go_wp2
    exact bodyPost_ret (v := .tuple #[.int .i64 1, .slice none 0 0]) (by simp [results, Try.results62, go_sem]) rfl ⟨none, 0, rfl, i_nil _ _ _, HB1.out⟩
  · simp only [h0, if_false]
    have h0i : ((q : Int) == 0) = false := by simp; omega
    have h0d : decide ((q : Int) = 0) = false := by simp; omega
    obtain ⟨rr, hrr⟩ : ∃ rr, rr = (if wl.any (askB (s, t, g) fs) then ((2 : Int), ([] : List Int)) else (3, wl)) := ⟨_, rfl⟩
    rw [← hrr]
    have HRY := Lib.hid (show wl.any (askB (s, t, g) fs) = true → rr = (2, []) from fun h => by rw [hrr, h]; rfl)
    have HRN := Lib.hid (show wl.any (askB (s, t, g) fs) = false → rr = (3, wl) from fun h => by rw [hrr, h]; rfl)
    clear hrr
    go_enter Try.func62, Try.ntmps62
    go_wp2_with fail
    refine (HW.out _ HB0.out).mono ?_
    rintro e w1 ⟨A1, c1, rfl, ho1, hb1⟩
    rw [HQ.out]
    have HB1 := Lib.hid (HB0.out.trans (hb1.mono HB0.out.size))
    have hk1 := (hb1.block w.heap.size (lt_blk hk0)).trans hk0
    have HO1 := Lib.hid (OwnI.wider ho1 HB0.out.size (Nat.le_refl _))
    clear hb1 ho1
    have HK1 := Lib.hid hk1
    clear hk1
    go_wp2
    go_loopw [10, 19] (fun v i wr => ∃ k : Nat, k ≤ q ∧ i = .int .i64 k ∧ Hid ((wl.take k).any (askB (s, t, g) fs) = false) ∧ Hid (Below w1.heap.size w1 wr)) (fun _ i _ => q - (intOf i).toNat)
    case atStart => exact ⟨0, by omega, rfl, Lib.hid rfl, Lib.hid (Below.refl _ _)⟩
    case round =>
      obtain ⟨k, hk, rfl, HP, HB⟩ := hrel
      have HBW := Lib.hid (HB1.out.trans (HB.out.mono HB1.out.size))
      by_cases hlt : k < q
      · have hkr := (HB.out.block w.heap.size (lt_blk HK1.out)).trans HK1.out
        have x1 := cell_blk (i := 1) hkr rfl
        have hlx := lt_blk hkr
        obtain ⟨b, off, rfl, hbB, hc⟩ := HO1.out.ints.get (by rw [HQ.out]; omega)
        have c0 := (HB.out.cell (p := ⟨b, off + k, none⟩) hbB).trans (hc k (by rw [HQ.out]; omega))
        have hk0 : (0 : Int) ≤ (k : Int) := by omega
        have hkn : (k : Int) < (q : Int) := by omega
        have HNX := Lib.hid (anyI_succ (p := askB (s, t, g) fs) (l := wl) (k := k) (by rw [HQ.out]; omega) HP.out)
        have HYS := Lib.hid (show askB (s, t, g) fs (wl[k]'(by rw [HQ.out]; omega)) = true → wl.any (askB (s, t, g) fs) = true from fun h => List.any_eq_true.2 ⟨_, List.getElem_mem (by rw [HQ.out]; omega), h⟩)
        obtain ⟨y, hy⟩ : ∃ y, y = wl[k]'(by rw [HQ.out]; omega) := ⟨_, rfl⟩
        rw [← hy] at c0 HNX HYS
        clear hc hy hkr
        by_cases h1 : y < t
        · have HF := Lib.hid (HRY.out (HYS.out (by simp [askB, h1])))
          have hf2 := HF.out
          subst hf2
          go_wp2
          exact bodyPost_ret (v := .tuple #[.int .i64 2, .slice none 0 0]) (by simp [results, Try.results62, go_sem]) rfl ⟨none, 0, rfl, i_nil _ _ _, HBW.out⟩
        · have h1d : decide (y < t) = false := by simp; omega
          obtain ⟨r2, hr2⟩ : ∃ r2, r2 = fs.contains y := ⟨_, rfl⟩
          have HHY := Lib.hid (HH.out y _ HBW.out)
          rw [← hr2] at HHY
          have HR2 := Lib.hid hr2
          clear hr2
          cases r2 with
          | true =>
            have HF := Lib.hid (HRY.out (HYS.out (by unfold askB; rw [← HR2.out]; simp)))
            have hf2 := HF.out
            subst hf2
            go_wp2_with fail
            refine HHY.out.mono ?_
            rintro e w4 ⟨rfl, rfl⟩
            go_wp2
            exact bodyPost_ret (v := .tuple #[.int .i64 2, .slice none 0 0]) (by simp [results, Try.results62, go_sem]) rfl ⟨none, 0, rfl, i_nil _ _ _, HBW.out⟩
          | false =>
            have HG := Lib.hid (HNX.out (by unfold askB; rw [← HR2.out, Bool.or_false]; exact h1d))
            go_wp2_with fail
            refine HHY.out.mono ?_
            rintro e w4 ⟨rfl, rfl⟩
            go_wp2
            go_roundw
            case rel => exact ⟨k + 1, by omega, by go_num, HG, HB⟩
            case measure => simp [intOf]; omega
      · have hkn : k = q := by omega
        subst hkn
        have HF := Lib.hid (HRN.out (by have := HP.out; rwa [List.take_of_length_le (by rw [HQ.out]; omega)] at this))
        have hf2 := HF.out
        subst hf2
        have HOR := Lib.hid (own_growI HO1.out HB.out)
        go_wp2
        exact bodyPost_ret (v := .tuple #[.int .i64 3, .slice A1 k c1]) (by simp [results, Try.results62, go_sem]) rfl ⟨A1, c1, by rw [HQ.out], HOR.out, HBW.out⟩

set_option maxRecDepth 100000 in
set_option maxHeartbeats 4000000 in
theorem specAskLock_any (s : ByteArray) (t : Int) (g : Bool) (A : Option Addr) (n c : Nat) (ls : List LK) (B : Nat) (w : World) (hn : ls.length = n) (hcp : n ≤ c) (h : LksB w B A ls) (hB : B ≤ w.heap.size) (hm : KSmall ls) (AF : Option Addr) (nf cf : Nat) (fs : List Int) (hnf : fs.length = nf) (hf : IntsB w B AF fs) (hlf : nf ≤ 1048576) (hs : s.size ≤ 1048576) :
    Calls Try.prog 15 #[.slice A n c, .slice AF nf cf, .agg #[.string s, .int .i64 t, .bool g]] w (NAPost (askA ls fs (s, t, g)) w) := by
  have HG := Lib.hid (fun W (hW : Below w.heap.size w W) => l12Good_any A n c ls B W hn hcp (h.below (hW.mono hB)) (Nat.le_trans hB hW.size) hm)
  have HL := Lib.hid (fun W => l12Lock_any s t g W hs)
  have HF1 := Lib.hid (fun W (hW : Below w.heap.size w W) => l1AllL_any AF nf cf fs B W hnf (hf.below (hW.mono hB)) hlf)
  have HAS := Lib.hid (fun (hgd : goodB ls = true) W (hW : Below w.heap.size w W) => l12Ask_any s t g A n c ls B W hn hcp (h.below (hW.mono hB)) (Nat.le_trans hB hW.size) hm AF nf cf fs hnf (hf.below (hW.mono hB)) hlf hgd)
  unfold NRPost at HAS
  have HB0 := Lib.hid (below1 w (.cells #[.string s, .int .i64 t, .bool g] 27))
  have hk0 := heap_alloc_new w (.cells #[.string s, .int .i64 t, .bool g] 27)
  have hnfi : (nf : Int) ≤ 1048576 := by omega
  unfold askA
  change Calls Try.prog 15 #[.slice A n c, .slice AF nf cf, .agg #[.string s, .int .i64 t, .bool g]] w (NAPost (if goodB ls && (lkB (s, t, g) && (decide (fs.length ≤ 20) && txnB fs)) then (if (waitsL ls (s, t, g)).length = 0 then (1, [], true) else if (waitsL ls (s, t, g)).any (askB (s, t, g) fs) then (2, [], true) else (3, waitsL ls (s, t, g), true)) else (0, [], false)) w)
  rw [hnf]
  obtain ⟨r1, hr1⟩ : ∃ r, r = goodB ls := ⟨_, rfl⟩
  obtain ⟨r2, hr2⟩ : ∃ r, r = lkB (s, t, g) := ⟨_, rfl⟩
  obtain ⟨r3, hr3⟩ : ∃ r, r = txnB fs := ⟨_, rfl⟩
  have HF2 := Lib.hid (show ∀ W, Below w.heap.size w W → Calls Try.prog 60 #[.slice AF nf cf, .int .i64 1, .int .i64 60] W fun e w' => e = .returned (.bool r3) ∧ W = w' by rw [hr3]; exact HF1.out)
  clear HF1
  have HF1 := HF2
  clear HF2
  rw [← hr1] at HG HAS
  rw [← hr2] at HL
  rw [← hr1, ← hr2, ← hr3]
  clear hr1 hr2 hr3 h hf hn hm
  cases r1 with
  | false =>
    go_enter Try.func15, Try.ntmps15
    go_wp2_with fail
    refine (HG.out _ HB0.out).mono ?_
    rintro e w1 ⟨rfl, hb1⟩
    have HB1 := Lib.hid (HB0.out.trans (hb1.mono HB0.out.size))
    have hk1 := (hb1.block w.heap.size (lt_blk hk0)).trans hk0
    have k10 : w1.cell? ⟨w.heap.size, 0, none⟩ = some (.string s) := cell_blk (i := 0) hk1 rfl
    have k11 : w1.cell? ⟨w.heap.size, 1, none⟩ = some (.int .i64 t) := cell_blk (i := 1) hk1 rfl
    have k12 : w1.cell? ⟨w.heap.size, 2, none⟩ = some (.bool g) := cell_blk (i := 2) hk1 rfl
    have kl1 := lt_blk hk1
    clear hb1
    go_wp2
    exact bodyPost_ret (v := .tuple #[.int .i64 0, .slice none 0 0, .bool false]) (by simp [results, Try.results15, go_sem]) rfl ⟨none, 0, rfl, i_nil _ _ _, HB1.out⟩
  | true =>
    by_cases h20 : nf ≤ 20
    · have h20i : (nf : Int) ≤ 20 := by omega
      cases r3 with
      | false =>
        simp only [Bool.and_false, Bool.false_eq_true, if_false]
        go_enter Try.func15, Try.ntmps15
        go_wp2_with fail
        refine (HG.out _ HB0.out).mono ?_
        rintro e w1 ⟨rfl, hb1⟩
        have HB1 := Lib.hid (HB0.out.trans (hb1.mono HB0.out.size))
        have hk1 := (hb1.block w.heap.size (lt_blk hk0)).trans hk0
        have k10 : w1.cell? ⟨w.heap.size, 0, none⟩ = some (.string s) := cell_blk (i := 0) hk1 rfl
        have k11 : w1.cell? ⟨w.heap.size, 1, none⟩ = some (.int .i64 t) := cell_blk (i := 1) hk1 rfl
        have k12 : w1.cell? ⟨w.heap.size, 2, none⟩ = some (.bool g) := cell_blk (i := 2) hk1 rfl
        have kl1 := lt_blk hk1
        clear hb1
        go_wp2_with fail
        refine (HF1.out _ HB1.out).mono ?_
        rintro e w2 ⟨rfl, rfl⟩
        go_wp2
        exact bodyPost_ret (v := .tuple #[.int .i64 0, .slice none 0 0, .bool false]) (by simp [results, Try.results15, go_sem]) rfl ⟨none, 0, rfl, i_nil _ _ _, HB1.out⟩
      | true =>
        cases r2 with
        | false =>
          simp only [Bool.and_false, Bool.false_and, Bool.false_eq_true, if_false]
          go_enter Try.func15, Try.ntmps15
          go_wp2_with fail
          refine (HG.out _ HB0.out).mono ?_
          rintro e w1 ⟨rfl, hb1⟩
          have HB1 := Lib.hid (HB0.out.trans (hb1.mono HB0.out.size))
          have hk1 := (hb1.block w.heap.size (lt_blk hk0)).trans hk0
          have k10 : w1.cell? ⟨w.heap.size, 0, none⟩ = some (.string s) := cell_blk (i := 0) hk1 rfl
          have k11 : w1.cell? ⟨w.heap.size, 1, none⟩ = some (.int .i64 t) := cell_blk (i := 1) hk1 rfl
          have k12 : w1.cell? ⟨w.heap.size, 2, none⟩ = some (.bool g) := cell_blk (i := 2) hk1 rfl
          have kl1 := lt_blk hk1
          clear hb1
          go_wp2_with fail
          refine (HF1.out _ HB1.out).mono ?_
          rintro e w2 ⟨rfl, rfl⟩
          go_wp2_with fail
          refine (HL.out _).mono ?_
          rintro e w3 ⟨rfl, hb3⟩
          have HB3 := Lib.hid (HB1.out.trans (hb3.mono HB1.out.size))
          have hk3 := (hb3.block w.heap.size (lt_blk hk1)).trans hk1
          have k30 : w3.cell? ⟨w.heap.size, 0, none⟩ = some (.string s) := cell_blk (i := 0) hk3 rfl
          have k31 : w3.cell? ⟨w.heap.size, 1, none⟩ = some (.int .i64 t) := cell_blk (i := 1) hk3 rfl
          have k32 : w3.cell? ⟨w.heap.size, 2, none⟩ = some (.bool g) := cell_blk (i := 2) hk3 rfl
          have kl3 := lt_blk hk3
          clear hb3
          go_wp2
          exact bodyPost_ret (v := .tuple #[.int .i64 0, .slice none 0 0, .bool false]) (by simp [results, Try.results15, go_sem]) rfl ⟨none, 0, rfl, i_nil _ _ _, HB3.out⟩
        | true =>
          simp only [h20, decide_true, Bool.and_self, if_true]
          have hx : (if (waitsL ls (s, t, g)).length = 0 then ((1 : Int), ([] : List Int), true) else if (waitsL ls (s, t, g)).any (askB (s, t, g) fs) then (2, [], true) else (3, waitsL ls (s, t, g), true)) = ((askR (waitsL ls (s, t, g)) fs (s, t, g)).1, (askR (waitsL ls (s, t, g)) fs (s, t, g)).2, true) := by
            unfold askR
            split
            · rfl
            · split <;> rfl
          rw [hx]
          have HAR := Lib.hid (HAS.out rfl)
          obtain ⟨⟨cd, al⟩, hr⟩ : ∃ r, r = askR (waitsL ls (s, t, g)) fs (s, t, g) := ⟨_, rfl⟩
          simp only [← hr] at HAR
          rw [← hr]
          clear hr HAS hx
          go_enter Try.func15, Try.ntmps15
          go_wp2_with fail
          refine (HG.out _ HB0.out).mono ?_
          rintro e w1 ⟨rfl, hb1⟩
          have HB1 := Lib.hid (HB0.out.trans (hb1.mono HB0.out.size))
          have hk1 := (hb1.block w.heap.size (lt_blk hk0)).trans hk0
          have k10 : w1.cell? ⟨w.heap.size, 0, none⟩ = some (.string s) := cell_blk (i := 0) hk1 rfl
          have k11 : w1.cell? ⟨w.heap.size, 1, none⟩ = some (.int .i64 t) := cell_blk (i := 1) hk1 rfl
          have k12 : w1.cell? ⟨w.heap.size, 2, none⟩ = some (.bool g) := cell_blk (i := 2) hk1 rfl
          have kl1 := lt_blk hk1
          clear hb1
          go_wp2_with fail
          refine (HF1.out _ HB1.out).mono ?_
          rintro e w2 ⟨rfl, rfl⟩
          go_wp2_with fail
          refine (HL.out _).mono ?_
          rintro e w3 ⟨rfl, hb3⟩
          have HB3 := Lib.hid (HB1.out.trans (hb3.mono HB1.out.size))
          have hk3 := (hb3.block w.heap.size (lt_blk hk1)).trans hk1
          have k30 : w3.cell? ⟨w.heap.size, 0, none⟩ = some (.string s) := cell_blk (i := 0) hk3 rfl
          have k31 : w3.cell? ⟨w.heap.size, 1, none⟩ = some (.int .i64 t) := cell_blk (i := 1) hk3 rfl
          have k32 : w3.cell? ⟨w.heap.size, 2, none⟩ = some (.bool g) := cell_blk (i := 2) hk3 rfl
          have kl3 := lt_blk hk3
          clear hb3
          go_wp2_with fail
          refine (HAR.out _ HB3.out).mono ?_
          rintro e w5 ⟨A5, c5, rfl, ho5, hb5⟩
          have HF := Lib.hid (show NAPost (cd, al, true) w (.returned (.tuple #[.int .i64 cd, .slice A5 al.length c5, .bool true])) w5 from ⟨A5, c5, rfl, OwnI.wider ho5 HB3.out.size (Nat.le_refl _), HB3.out.trans (hb5.mono HB3.out.size)⟩)
          clear ho5 hb5
          go_wp2
          exact bodyPost_ret (v := .tuple #[.int .i64 cd, .slice A5 al.length c5, .bool true]) (by simp [results, Try.results15, go_sem]) rfl HF.out
    · have h20i : (20 : Int) < (nf : Int) := by omega
      simp only [h20, decide_false, Bool.false_and, Bool.and_false, Bool.false_eq_true, if_false]
      go_enter Try.func15, Try.ntmps15
      go_wp2_with fail
      refine (HG.out _ HB0.out).mono ?_
      rintro e w1 ⟨rfl, hb1⟩
      have HB1 := Lib.hid (HB0.out.trans (hb1.mono HB0.out.size))
      have hk1 := (hb1.block w.heap.size (lt_blk hk0)).trans hk0
      have k10 : w1.cell? ⟨w.heap.size, 0, none⟩ = some (.string s) := cell_blk (i := 0) hk1 rfl
      have k11 : w1.cell? ⟨w.heap.size, 1, none⟩ = some (.int .i64 t) := cell_blk (i := 1) hk1 rfl
      have k12 : w1.cell? ⟨w.heap.size, 2, none⟩ = some (.bool g) := cell_blk (i := 2) hk1 rfl
      have kl1 := lt_blk hk1
      clear hb1
      go_wp2
      exact bodyPost_ret (v := .tuple #[.int .i64 0, .slice none 0 0, .bool false]) (by simp [results, Try.results15, go_sem]) rfl ⟨none, 0, rfl, i_nil _ _ _, HB1.out⟩
end Go.Proofs.Ytlfdefjkfacngaa.Lk
