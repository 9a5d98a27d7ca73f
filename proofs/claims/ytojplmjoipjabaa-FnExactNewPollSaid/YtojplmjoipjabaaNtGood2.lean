/-
  Contracts for the checks of letters and nets: goodLetter, goodUnder, GoodNet of the program; l7Good, GoodNet of the model.
-/
import Derived.Test.YtojplmjoipjabaaNtGood
namespace Go.Proofs.Ytojplmjoipjabaa.Nt
open Go.RowKit
set_option linter.unusedVariables false
set_option linter.unusedSimpArgs false

theorem size0_list {s : ByteArray} (h : s.size = 0) : s = ⟨#[]⟩ := by
  apply ByteArray.ext
  exact Array.eq_empty_of_size_eq_zero h
theorem list_ne {s : ByteArray} (h : s.size ≠ 0) : ¬ s.toList = [] := by
  intro e
  rw [Lib.toList_data] at e
  have h2 := congrArg List.length e
  simp at h2
  exact h (by rw [h2]; rfl)

set_option maxHeartbeats 4000000 in
theorem goodLetter_any (now far : Int) (A A' : Option Addr) (n c n' c' : Nat) (f t d : Int) (s : ByteArray) (w : World) (hs : s.size ≤ 1048576) :
    Calls Try.prog 117 #[.agg #[.int .i64 now, .slice A n c, .int .i64 far, .slice A' n' c'], .agg #[.int .i64 f, .int .i64 t, .int .i64 d, .string s]] w fun e w' => e = .returned (.bool (glB n (f, t, d, s))) ∧ Below w.heap.size w w' := by
  have H1 := Lib.hid (fun W => isNode_any now far A A' n c n' c' f W)
  have H2 := Lib.hid (fun W => isNode_any now far A A' n c n' c' t W)
  obtain ⟨r, hr⟩ : ∃ r, r = glB n (f, t, d, s) := ⟨_, rfl⟩
  rw [← hr]
  unfold glB at hr
  simp only at hr
  have hs0 : (s.size : Int) ≤ 1048576 := by omega
  have hb0 := below2 w (.cells #[.int .i64 now, .slice A n c, .int .i64 far, .slice A' n' c'] 35) (.cells #[.int .i64 f, .int .i64 t, .int .i64 d, .string s] 66)
  cases h1 : nodeB n f with
  | false =>
    rw [h1] at H1
    have HR := Lib.hid (ret_bool (show false = r by rw [hr, h1]; simp))
    clear hr
    clear h1
    go_enter Try.func117, Try.ntmps117
    go_wp2_with fail
    refine (H1.out _).mono ?_
    rintro e w1 ⟨rfl, hb1⟩
    obtain ⟨hc, hf⟩ := bcell hb1
    have hz := hb1.size
    simp only [World.size_alloc] at hz hc hf
    have hz0 : w.heap.size < w1.heap.size := by omega
    have hz1 : w.heap.size + 1 < w1.heap.size := by omega
    have hB1 := hb0.trans (hb1.mono hb0.size)
    clear hb1 hb0
    go_wp2
    go_ret
    exact ⟨HR.out, hB1⟩
  | true =>
    rw [h1] at H1 hr
    clear h1
    cases h2 : nodeB n t with
    | false =>
      rw [h2] at H2 hr
      have HR := Lib.hid (ret_bool (show false = r by rw [hr]; simp))
      clear hr
      clear h2
      go_enter Try.func117, Try.ntmps117
      go_wp2_with fail
      refine (H1.out _).mono ?_
      rintro e w1 ⟨rfl, hb1⟩
      obtain ⟨hc, hf⟩ := bcell hb1
      have hz := hb1.size
      simp only [World.size_alloc] at hz hc hf
      have hz0 : w.heap.size < w1.heap.size := by omega
      have hz1 : w.heap.size + 1 < w1.heap.size := by omega
      have hB1 := hb0.trans (hb1.mono hb0.size)
      go_wp2_with fail
      refine (H2.out _).mono ?_
      rintro e w2 ⟨rfl, hb2⟩
      obtain ⟨hd, hg⟩ := bcell hb2
      have hy := hb2.size
      have hy0 : w.heap.size < w2.heap.size := by omega
      have hy1 : w.heap.size + 1 < w2.heap.size := by omega
      have hB2 := hb1.trans (hb2.mono hb1.size)
      obtain ⟨hc2, hf2⟩ := bcell hB2
      simp only [World.size_alloc] at hc2 hf2
      have HB2 := Lib.hid (hb0.trans (hB2.mono hb0.size))
      clear hb1 hb2 hB1 hB2 hd hg hc hf hb0
      go_wp2
      go_ret
      exact ⟨HR.out, HB2.out⟩
    | true =>
      rw [h2] at H2 hr
      clear h2
      by_cases h3 : f = t
      · subst h3
        have HR := Lib.hid (ret_bool (show false = r by rw [hr]; simp))
        clear hr
        go_enter Try.func117, Try.ntmps117
        go_wp2_with fail
        refine (H1.out _).mono ?_
        rintro e w1 ⟨rfl, hb1⟩
        obtain ⟨hc, hf⟩ := bcell hb1
        have hz := hb1.size
        simp only [World.size_alloc] at hz hc hf
        have hz0 : w.heap.size < w1.heap.size := by omega
        have hz1 : w.heap.size + 1 < w1.heap.size := by omega
        have hB1 := hb0.trans (hb1.mono hb0.size)
        go_wp2_with fail
        refine (H2.out _).mono ?_
        rintro e w2 ⟨rfl, hb2⟩
        obtain ⟨hd, hg⟩ := bcell hb2
        have hy := hb2.size
        have hy0 : w.heap.size < w2.heap.size := by omega
        have hy1 : w.heap.size + 1 < w2.heap.size := by omega
        have hB2 := hb1.trans (hb2.mono hb1.size)
        obtain ⟨hc2, hf2⟩ := bcell hB2
        simp only [World.size_alloc] at hc2 hf2
        have HB2 := Lib.hid (hb0.trans (hB2.mono hb0.size))
        clear hb1 hb2 hB1 hB2 hd hg hc hf hb0
        go_wp2
        go_ret
        exact ⟨HR.out, HB2.out⟩
      have h3b : (f != t) = true := by simpa using h3
      by_cases h4 : 0 ≤ d
      · by_cases h5 : d ≤ 100200
        · by_cases h6 : s.size = 0
          · have h7 := size0_list h6
            subst h7
            have e0 : decide ((⟨#[]⟩ : ByteArray).size ≠ 0) = false := rfl
            have HR := Lib.hid (ret_bool (show false = r by rw [hr, e0]; simp))
            clear hr e0
            go_enter Try.func117, Try.ntmps117
            go_wp2_with fail
            refine (H1.out _).mono ?_
            rintro e w1 ⟨rfl, hb1⟩
            obtain ⟨hc, hf⟩ := bcell hb1
            have hz := hb1.size
            simp only [World.size_alloc] at hz hc hf
            have hz0 : w.heap.size < w1.heap.size := by omega
            have hz1 : w.heap.size + 1 < w1.heap.size := by omega
            have hB1 := hb0.trans (hb1.mono hb0.size)
            go_wp2_with fail
            refine (H2.out _).mono ?_
            rintro e w2 ⟨rfl, hb2⟩
            obtain ⟨hd, hg⟩ := bcell hb2
            have hy := hb2.size
            have hy0 : w.heap.size < w2.heap.size := by omega
            have hy1 : w.heap.size + 1 < w2.heap.size := by omega
            have hB2 := hb1.trans (hb2.mono hb1.size)
            obtain ⟨hc2, hf2⟩ := bcell hB2
            simp only [World.size_alloc] at hc2 hf2
            have HB2 := Lib.hid (hb0.trans (hB2.mono hb0.size))
            clear hb1 hb2 hB1 hB2 hd hg hc hf hb0
            go_wp2
            go_ret
            exact ⟨HR.out, HB2.out⟩
          · have h7 : s.toList.isEmpty = false := by simpa using list_ne h6
            by_cases h8 : s.size ≤ 40
            · have h9 : (s.size : Int) ≤ 40 := by omega
              have HR := Lib.hid (ret_bool (show true = r by rw [hr]; simp [h3, h4, h5, h6, h8]))
              clear hr
              go_enter Try.func117, Try.ntmps117
              go_wp2_with fail
              refine (H1.out _).mono ?_
              rintro e w1 ⟨rfl, hb1⟩
              obtain ⟨hc, hf⟩ := bcell hb1
              have hz := hb1.size
              simp only [World.size_alloc] at hz hc hf
              have hz0 : w.heap.size < w1.heap.size := by omega
              have hz1 : w.heap.size + 1 < w1.heap.size := by omega
              have hB1 := hb0.trans (hb1.mono hb0.size)
              go_wp2_with fail
              refine (H2.out _).mono ?_
              rintro e w2 ⟨rfl, hb2⟩
              obtain ⟨hd, hg⟩ := bcell hb2
              have hy := hb2.size
              have hy0 : w.heap.size < w2.heap.size := by omega
              have hy1 : w.heap.size + 1 < w2.heap.size := by omega
              have hB2 := hb1.trans (hb2.mono hb1.size)
              obtain ⟨hc2, hf2⟩ := bcell hB2
              simp only [World.size_alloc] at hc2 hf2
              have HB2 := Lib.hid (hb0.trans (hB2.mono hb0.size))
              clear hb1 hb2 hB1 hB2 hd hg hc hf hb0
              go_wp2
              go_ret
              exact ⟨HR.out, HB2.out⟩
            · have h9 : decide ((s.size : Int) ≤ 40) = false := by simp; omega
              have HR := Lib.hid (ret_bool (show false = r by rw [hr]; simp [h8]))
              clear hr
              go_enter Try.func117, Try.ntmps117
              go_wp2_with fail
              refine (H1.out _).mono ?_
              rintro e w1 ⟨rfl, hb1⟩
              obtain ⟨hc, hf⟩ := bcell hb1
              have hz := hb1.size
              simp only [World.size_alloc] at hz hc hf
              have hz0 : w.heap.size < w1.heap.size := by omega
              have hz1 : w.heap.size + 1 < w1.heap.size := by omega
              have hB1 := hb0.trans (hb1.mono hb0.size)
              go_wp2_with fail
              refine (H2.out _).mono ?_
              rintro e w2 ⟨rfl, hb2⟩
              obtain ⟨hd, hg⟩ := bcell hb2
              have hy := hb2.size
              have hy0 : w.heap.size < w2.heap.size := by omega
              have hy1 : w.heap.size + 1 < w2.heap.size := by omega
              have hB2 := hb1.trans (hb2.mono hb1.size)
              obtain ⟨hc2, hf2⟩ := bcell hB2
              simp only [World.size_alloc] at hc2 hf2
              have HB2 := Lib.hid (hb0.trans (hB2.mono hb0.size))
              clear hb1 hb2 hB1 hB2 hd hg hc hf hb0
              go_wp2
              go_ret
              exact ⟨HR.out, HB2.out⟩
        · have HR := Lib.hid (ret_bool (show false = r by rw [hr]; simp [h5]))
          clear hr
          go_enter Try.func117, Try.ntmps117
          go_wp2_with fail
          refine (H1.out _).mono ?_
          rintro e w1 ⟨rfl, hb1⟩
          obtain ⟨hc, hf⟩ := bcell hb1
          have hz := hb1.size
          simp only [World.size_alloc] at hz hc hf
          have hz0 : w.heap.size < w1.heap.size := by omega
          have hz1 : w.heap.size + 1 < w1.heap.size := by omega
          have hB1 := hb0.trans (hb1.mono hb0.size)
          go_wp2_with fail
          refine (H2.out _).mono ?_
          rintro e w2 ⟨rfl, hb2⟩
          obtain ⟨hd, hg⟩ := bcell hb2
          have hy := hb2.size
          have hy0 : w.heap.size < w2.heap.size := by omega
          have hy1 : w.heap.size + 1 < w2.heap.size := by omega
          have hB2 := hb1.trans (hb2.mono hb1.size)
          obtain ⟨hc2, hf2⟩ := bcell hB2
          simp only [World.size_alloc] at hc2 hf2
          have HB2 := Lib.hid (hb0.trans (hB2.mono hb0.size))
          clear hb1 hb2 hB1 hB2 hd hg hc hf hb0
          go_wp2
          go_ret
          exact ⟨HR.out, HB2.out⟩
      · have HR := Lib.hid (ret_bool (show false = r by rw [hr]; simp [h4]))
        clear hr
        go_enter Try.func117, Try.ntmps117
        go_wp2_with fail
        refine (H1.out _).mono ?_
        rintro e w1 ⟨rfl, hb1⟩
        obtain ⟨hc, hf⟩ := bcell hb1
        have hz := hb1.size
        simp only [World.size_alloc] at hz hc hf
        have hz0 : w.heap.size < w1.heap.size := by omega
        have hz1 : w.heap.size + 1 < w1.heap.size := by omega
        have hB1 := hb0.trans (hb1.mono hb0.size)
        go_wp2_with fail
        refine (H2.out _).mono ?_
        rintro e w2 ⟨rfl, hb2⟩
        obtain ⟨hd, hg⟩ := bcell hb2
        have hy := hb2.size
        have hy0 : w.heap.size < w2.heap.size := by omega
        have hy1 : w.heap.size + 1 < w2.heap.size := by omega
        have hB2 := hb1.trans (hb2.mono hb1.size)
        obtain ⟨hc2, hf2⟩ := bcell hB2
        simp only [World.size_alloc] at hc2 hf2
        have HB2 := Lib.hid (hb0.trans (hB2.mono hb0.size))
        clear hb1 hb2 hB1 hB2 hd hg hc hf hb0
        go_wp2
        go_ret
        exact ⟨HR.out, HB2.out⟩

/-- The time of the letter before. -/
def Bef (b : Int) : Prop := 0 ≤ b
set_option maxRecDepth 100000 in
set_option maxHeartbeats 4000000 in
theorem goodUnder_any (now far : Int) (A A' : Option Addr) (n c n' c' : Nat) (ls : List (Int × Int × Int × ByteArray)) (B : Nat) (w : World) (hn' : ls.length = n') (h : LetsB w B A' ls) (hB : B ≤ w.heap.size) (hm : LSmall ls) :
    Calls Try.prog 88 #[.agg #[.int .i64 now, .slice A n c, .int .i64 far, .slice A' n' c']] w fun e w' => e = .returned (.bool (decide (n' ≤ 60) && undB n 0 ls)) ∧ Below w.heap.size w w' := by
  have hb0 := below1 w (.cells #[.int .i64 now, .slice A n c, .int .i64 far, .slice A' n' c'] 35)
  have hbk := heap_alloc_new w (.cells #[.int .i64 now, .slice A n c, .int .i64 far, .slice A' n' c'] 35)
  have hm1 : n' ≤ 2000000 := by rw [← hn']; exact hm.1
  by_cases h60 : n' ≤ 60
  · have hge := Nat.le_of_eq hn'
    have hle := Nat.le_of_eq hn'.symm
    have HS := Lib.hid h
    have HM := Lib.hid hm.2
    obtain ⟨r, hr⟩ : ∃ r, r = undB n 0 ls := ⟨_, rfl⟩
    have HR := Lib.hid (show r = undB n 0 (ls.drop 0) from hr)
    rw [← hr, decide_eq_true h60, Bool.true_and]
    have h60i : (n' : Int) ≤ 60 := by omega
    have HB0 := Lib.hid hb0
    have HBK := Lib.hid hbk
    clear h hm hr hb0 hbk hn'
    go_enter Try.func88, Try.ntmps88
    go_wp2
    go_loopw [3, 5, 13] (fun b x i wr => ∃ (k : Nat) (bt : Int), k ≤ n' ∧ i = .int .i64 k ∧ b = .int .i64 bt ∧ 0 ≤ bt ∧ Hid (r = undB n bt (ls.drop k)) ∧ Hid (Below w.heap.size w wr) ∧ Hid (wr.heap[w.heap.size]? = some (.cells #[.int .i64 now, .slice A n c, .int .i64 far, .slice A' n' c'] 35 (0, 0)))) (fun _ _ i _ => n' - (intOf i).toNat)
    case atStart => exact ⟨0, 0, by omega, rfl, rfl, by omega, HR, HB0.out, HBK.out⟩
    case round =>
      clear HR HB0 HBK
      obtain ⟨k, bt, hk, rfl, rfl, hbt, HR, HB, HK⟩ := hrel
      by_cases hlt : k < n'
      · obtain ⟨b, off, rfl, hbB, hc⟩ := HS.out.get (by omega)
        obtain ⟨hc0, hc1, hc2, hc3⟩ := hc k (by omega)
        have c0 := (HB.out.cell (p := ⟨b, off + k * 4, none⟩) (Nat.lt_of_lt_of_le hbB hB)).trans hc0
        have c1 := (HB.out.cell (p := ⟨b, off + k * 4 + 1, none⟩) (Nat.lt_of_lt_of_le hbB hB)).trans hc1
        have c2 := (HB.out.cell (p := ⟨b, off + k * 4 + 2, none⟩) (Nat.lt_of_lt_of_le hbB hB)).trans hc2
        have c3 := (HB.out.cell (p := ⟨b, off + k * 4 + 3, none⟩) (Nat.lt_of_lt_of_le hbB hB)).trans hc3
        have HRS := Lib.hid (HR.out.trans (undB_step (show k < ls.length by omega)))
        have hsm := HM.out _ (List.getElem_mem (show k < ls.length by omega))
        obtain ⟨y, hy⟩ : ∃ y, y = ls[k]'(by omega) := ⟨_, rfl⟩
        rw [← hy] at c0 c1 c2 c3 HRS hsm
        obtain ⟨f, t, d, s⟩ := y
        simp only at c0 c1 c2 c3 HRS hsm
        have hk0 : (0 : Int) ≤ (k : Int) := by omega
        have hkn : (k : Int) < (n' : Int) := by omega
        have HC := Lib.hid (fun W => goodLetter_any now far A (some ⟨b, off, none⟩) n c n' c' f t d s W hsm)
        have k0 := cell_of_row _ _ 0 _ 35 (0, 0) HK.out
        have k1 := cell_of_row _ _ 1 _ 35 (0, 0) HK.out
        have k2 := cell_of_row _ _ 2 _ 35 (0, 0) HK.out
        have k3 := cell_of_row _ _ 3 _ 35 (0, 0) HK.out
        have hlw := lt_blk HK.out
        have hbx := heap_alloc_new wr (.cells #[.int .i64 f, .int .i64 t, .int .i64 d, .string s] 66)
        have hb1 := below1 wr (.cells #[.int .i64 f, .int .i64 t, .int .i64 d, .string s] 66)
        have HBX := Lib.hid hbx
        have HB1 := Lib.hid hb1
        clear hc hc0 hc1 hc2 hc3 hy hsm hbx hb1 HR
        go_wp2_with fail
        refine (HC.out _).mono ?_
        rintro e w4 ⟨rfl, hb4⟩
        have x2 := (hb4.cell (p := ⟨wr.heap.size, 2, none⟩) (by simp)).trans (cell_blk (i := 2) HBX.out rfl)
        have hb5 := HB1.out.trans (hb4.mono HB1.out.size)
        have HB5 := Lib.hid (HB.out.trans (hb5.mono HB.out.size))
        have HK5 := Lib.hid ((hb5.block w.heap.size hlw).trans HK.out)
        have k30 := cell_of_row _ _ 3 _ 35 (0, 0) HK5.out
        clear c0 c1 c2 c3 k0 k1 k2 k3 hb4 hb5
        cases h1 : glB n (f, t, d, s) with
        | false =>
          have HNO := Lib.hid (ret_bool (show false = r by rw [HRS.out, h1]; rfl))
          clear h1 HRS
          go_wp2
          go_ret
          exact ⟨HNO.out, HB5.out⟩
        | true =>
          have hd0 := (glB_parts h1).2.2.2.1
          simp only at hd0
          by_cases h2 : bt ≤ d
          · have HR2 := Lib.hid (show r = undB n d (ls.drop (k + 1)) by rw [HRS.out, h1, decide_eq_true h2, Bool.true_and, Bool.true_and])
            have h3 : decide (d < bt) = false := by simp; omega
            clear h1 HRS
            go_wp2
            go_roundw
            case rel => exact ⟨k + 1, d, by omega, by go_num, rfl, hd0, HR2, HB5.out, HK5.out⟩
            case measure => simp [intOf]; omega
          · have HNO := Lib.hid (ret_bool (show false = r by rw [HRS.out, decide_eq_false h2]; simp))
            have h3 : d < bt := by omega
            clear h1 HRS
            go_wp2
            go_ret
            exact ⟨HNO.out, HB5.out⟩
      · have HYES := Lib.hid (ret_bool (show true = r by rw [HR.out, undB_end (by omega)]))
        have HBB := Lib.hid HB.out
        go_wp2
        go_ret
        exact ⟨HYES.out, HBB.out⟩
  · rw [decide_eq_false h60, Bool.false_and]
    have h60i : (60 : Int) < (n' : Int) := by omega
    clear h hm hn' hbk
    go_enter Try.func88, Try.ntmps88
    go_wp2
    go_ret
    exact ⟨rfl, hb0⟩

theorem far_split {far : Int} : inB far 0 20 = (decide (0 ≤ far) && decide (far ≤ 20)) := rfl
set_option maxHeartbeats 4000000 in
theorem implGoodNet_any (now far : Int) (A A' : Option Addr) (n c n' c' : Nat) (is : List Int) (ls : List (Int × Int × Int × ByteArray)) (B : Nat) (w : World) (hn : is.length = n) (hn' : ls.length = n') (h : IntsB w B A is) (h' : LetsB w B A' ls) (hB : B ≤ w.heap.size) (hm : LSmall ls) :
    Calls Try.prog 43 #[.agg #[.int .i64 now, .slice A n c, .int .i64 far, .slice A' n' c']] w fun e w' => e = .returned (.bool (netB now is far ls)) ∧ Below w.heap.size w w' := by
  have hb0 := below1 w (.cells #[.int .i64 now, .slice A n c, .int .i64 far, .slice A' n' c'] 35)
  have hbk := heap_alloc_new w (.cells #[.int .i64 now, .slice A n c, .int .i64 far, .slice A' n' c'] 35)
  have HT := Lib.hid (fun W => isTrueTime_any now W)
  have HH := Lib.hid (fun W (hW : Below w.heap.size w W) => goodHomes_any A n c is B W hn (h.below (hW.mono hB)))
  have HU := Lib.hid (fun W (hW : Below w.heap.size w W) => goodUnder_any now far A A' n c n' c' ls B W hn' (h'.below (hW.mono hB)) (Nat.le_trans hB hW.size) hm)
  obtain ⟨r, hr⟩ : ∃ r, r = netB now is far ls := ⟨_, rfl⟩
  rw [← hr]
  unfold netB at hr
  rw [hn, hn'] at hr
  obtain ⟨u, hu⟩ : ∃ u, u = (decide (n' ≤ 60) && undB n 0 ls) := ⟨_, rfl⟩
  rw [← hu] at HU hr
  clear h h' hm hn hn' hu hB hbk
  cases h1 : inB now 0 100000 with
  | false =>
    rw [h1] at HT hr
    have HR := Lib.hid (ret_bool (show false = r by rw [hr]; rfl))
    clear h1 hr
    go_enter Try.func43, Try.ntmps43
    go_wp2_with fail
    refine (HT.out _).mono ?_
    rintro e w1 ⟨rfl, rfl⟩
    go_wp2
    go_ret
    exact ⟨HR.out, hb0⟩
  | true =>
    rw [h1, Bool.true_and] at hr
    rw [h1] at HT
    clear h1
    cases h2 : homesB is with
    | false =>
      rw [h2] at HH hr
      have HR := Lib.hid (ret_bool (show false = r by rw [hr]; rfl))
      clear h2 hr
      go_enter Try.func43, Try.ntmps43
      go_wp2_with fail
      refine (HT.out _).mono ?_
      rintro e w1 ⟨rfl, rfl⟩
      go_wp2_with fail
      refine (HH.out _ hb0).mono ?_
      rintro e w1 ⟨rfl, rfl⟩
      go_wp2
      go_ret
      exact ⟨HR.out, hb0⟩
    | true =>
      rw [h2, Bool.true_and, far_split] at hr
      rw [h2] at HH
      clear h2
      by_cases h3 : 0 ≤ far
      · by_cases h4 : far ≤ 20
        · have HR := Lib.hid (ret_bool (show u = r by rw [hr, decide_eq_true h3, decide_eq_true h4]; rfl))
          have HB0 := Lib.hid hb0
          clear hr hb0
          go_enter Try.func43, Try.ntmps43
          go_wp2_with fail
          refine (HT.out _).mono ?_
          rintro e w1 ⟨rfl, rfl⟩
          go_wp2_with fail
          refine (HH.out _ HB0.out).mono ?_
          rintro e w1 ⟨rfl, rfl⟩
          go_wp2_with fail
          refine (HU.out _ HB0.out).mono ?_
          rintro e w2 ⟨rfl, hb2⟩
          have HB := Lib.hid (HB0.out.trans (hb2.mono HB0.out.size))
          clear hb2
          go_wp2
          go_ret
          exact ⟨HR.out, HB.out⟩
        · have HR := Lib.hid (ret_bool (show false = r by rw [hr, decide_eq_false h4]; simp))
          clear hr
          go_enter Try.func43, Try.ntmps43
          go_wp2_with fail
          refine (HT.out _).mono ?_
          rintro e w1 ⟨rfl, rfl⟩
          go_wp2_with fail
          refine (HH.out _ hb0).mono ?_
          rintro e w1 ⟨rfl, rfl⟩
          go_wp2
          go_ret
          exact ⟨HR.out, hb0⟩
      · have HR := Lib.hid (ret_bool (show false = r by rw [hr, decide_eq_false h3]; simp))
        clear hr
        go_enter Try.func43, Try.ntmps43
        go_wp2_with fail
        refine (HT.out _).mono ?_
        rintro e w1 ⟨rfl, rfl⟩
        go_wp2_with fail
        refine (HH.out _ hb0).mono ?_
        rintro e w1 ⟨rfl, rfl⟩
        go_wp2
        go_ret
        exact ⟨HR.out, hb0⟩
end Go.Proofs.Ytojplmjoipjabaa.Nt
