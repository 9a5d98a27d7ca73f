/-
  Locks: what is valid, of the model and of the program: l12Lock, l12Clash, l12Good, GoodLocks; isTxn, goodLock, isHeldAs, conflicts, excludes, hasOnly, ContainsFunc.
-/
import Derived.Test.YtlfdefjkfacngaaMade
import Derived.Test.YtlfdefjkfacngaaLkMem
import Derived.Test.YtlfdefjkfacngaaLkTo
import Derived.Deep.RegionHeld3
import Derived.Deep.DeepCutAuto
import Derived.Deep.QuietTactic
import Derived.BigQuiet
namespace Go.Proofs.Ytlfdefjkfacngaa.Lk
open Go.RowKit CM
set_option linter.unusedVariables false
set_option linter.unusedSimpArgs false

theorem kne {a b : ByteArray} (h : a ≠ b) : (a.toList == b.toList) = false := by
  cases e : a.toList == b.toList with
  | false => rfl
  | true => exact absurd (kEq_iff.1 e) h
theorem exclB_symm (x y : LK) : exclB x y = exclB y x := by
  unfold exclB heldB clashB
  rw [show decide (x.1 = y.1) = decide (y.1 = x.1) by simp [eq_comm], show decide (x.2.1 = y.2.1) = decide (y.2.1 = x.2.1) by simp [eq_comm], Bool.or_comm x.2.2]
theorem freeB_snoc (l : List LK) (x : LK) : freeB (l ++ [x]) = (freeB l && !l.any (exclB x)) := by
  induction l with
  | nil => simp [freeB]
  | cons y l ih =>
    simp only [List.cons_append, freeB, List.any_append, List.any_cons, List.any_nil, Bool.or_false, ih, exclB_symm x y]
    cases l.any (exclB y) <;> cases exclB y x <;> cases freeB l <;> cases l.any (exclB x) <;> rfl
theorem freeB_take {l : List LK} (h : freeB l = true) : ∀ k, freeB (l.take k) = true := by
  induction l with
  | nil => intro k; simp [freeB]
  | cons y l ih =>
    intro k
    cases k with
    | zero => rfl
    | succ k =>
      simp only [freeB, Bool.and_eq_true, Bool.not_eq_true', List.take_succ_cons] at h ⊢
      refine ⟨?_, ih h.2 k⟩
      rw [List.any_eq_false] at h ⊢
      exact fun z hz => h.1 z (List.mem_of_mem_take hz)
theorem freeB_drop {l : List LK} {k : Nat} (hk : k < l.length) : freeB (l.drop k) = (!(l.drop (k + 1)).any (exclB l[k]) && freeB (l.drop (k + 1))) := by
  rw [List.drop_eq_getElem_cons hk]; rfl
/-- The first k locks are good and free. -/
def GoodTo (l : List LK) (k : Nat) : Prop := (l.take k).all lkB = true ∧ freeB (l.take k) = true
theorem GoodTo.zero (l : List LK) : GoodTo l 0 := ⟨rfl, rfl⟩
theorem GoodTo.succ {l : List LK} {k : Nat} (h : GoodTo l k) (hk : k < l.length) (h1 : lkB l[k] = true) (h2 : (l.take k).any (exclB l[k]) = false) : GoodTo l (k + 1) := by
  refine ⟨by rw [take_all_succ lkB l k hk, h.1, h1]; rfl, ?_⟩
  rw [List.take_succ_eq_append_getElem hk, freeB_snoc, h.2, h2]; rfl
theorem GoodTo.end {l : List LK} {k : Nat} (h : GoodTo l k) (hk : l.length ≤ k) : goodB l = decide (l.length ≤ 60) := by
  unfold GoodTo at h
  rw [List.take_of_length_le hk] at h
  unfold goodB
  rw [h.1, h.2, Bool.and_self, Bool.and_true]
theorem bad_lock {l : List LK} {k : Nat} (hk : k < l.length) (h : lkB l[k] = false) : goodB l = false := by
  unfold goodB
  rw [all_bad lkB l k hk h]; simp
theorem bad_pair {l : List LK} {k j : Nat} (hk : k < l.length) (hj : j < k) (h : exclB l[k] (l[j]'(by omega)) = true) : goodB l = false := by
  unfold goodB
  cases e : freeB l with
  | false => simp
  | true =>
    have h1 := freeB_take e (k + 1)
    rw [List.take_succ_eq_append_getElem hk, freeB_snoc, Bool.and_eq_true, Bool.not_eq_true', List.any_eq_false] at h1
    exact absurd h (h1.2 l[j] (List.mem_take_iff_getElem.2 ⟨j, by omega, rfl⟩))
theorem any_take_succ {x : LK} {l : List LK} {j : Nat} (hj : j < l.length) (h : (l.take j).any (exclB x) = false) (h1 : exclB x l[j] = false) : (l.take (j + 1)).any (exclB x) = false := by
  rw [List.take_succ_eq_append_getElem hj, List.any_append, h]; simp [h1]
theorem long_bad {l : List LK} (h : 60 < l.length) : goodB l = false := by
  unfold goodB
  rw [show decide (l.length ≤ 60) = false by simp; omega]; rfl

theorem l12Lock_any (s : ByteArray) (t : Int) (g : Bool) (w : World) (hs : s.size ≤ 1048576) :
    Calls Try.prog 61 #[.agg #[.string s, .int .i64 t, .bool g]] w fun e w' => e = .returned (.bool (lkB (s, t, g))) ∧ Below w.heap.size w w' := by
  have HK := Lib.hid (fun W => l3Key_any s W hs)
  have HT := Lib.hid (fun W => l1In_any t 1 60 W)
  have HB0 := Lib.hid (below1 w (.cells #[.string s, .int .i64 t, .bool g] 27))
  unfold lkB
  obtain ⟨r1, hr1⟩ : ∃ r, r = keyB s := ⟨_, rfl⟩
  obtain ⟨r2, hr2⟩ : ∃ r, r = inB t 1 60 := ⟨_, rfl⟩
  rw [← hr1] at HK
  rw [← hr2] at HT
  simp only [← hr1, ← hr2]
  clear hr1 hr2
  cases r1 with
  | true =>
    go_enter Try.func61, Try.ntmps61
    go_wp2_with fail
    refine (HK.out _).mono ?_
    rintro e w1 ⟨rfl, m1, rfl⟩
    go_wp2_with fail
    refine (HT.out _).mono ?_
    rintro e w2 ⟨rfl, rfl⟩
    go_wp2
    go_ret
    exact ⟨rfl, below_drewN HB0.out m1⟩
  | false =>
    go_enter Try.func61, Try.ntmps61
    go_wp2_with fail
    refine (HK.out _).mono ?_
    rintro e w1 ⟨rfl, m1, rfl⟩
    go_wp2
    go_ret
    exact ⟨rfl, below_drewN HB0.out m1⟩
theorem isTxnL_any (n : Int) (w : World) :
    Calls Try.prog 55 #[.int .i64 n] w fun e w' => e = .returned (.bool (inB n 1 60)) ∧ w = w' := by
  by_cases h1 : 1 ≤ n
  · by_cases h2 : n ≤ 60
    · rw [inB_mk ⟨h1, h2⟩]
      go_enter Try.func55, Try.ntmps55
      go_wp2
      go_ret
      exact ⟨rfl, rfl⟩
    · rw [inB_not (by omega)]
      go_enter Try.func55, Try.ntmps55
      go_wp2
      go_ret
      exact ⟨rfl, rfl⟩
  · rw [inB_not (by omega)]
    go_enter Try.func55, Try.ntmps55
    go_wp2
    go_ret
    exact ⟨rfl, rfl⟩
theorem goodLock_any (s : ByteArray) (t : Int) (g : Bool) (w : World) (hs : s.size ≤ 1048576) :
    Calls Try.prog 63 #[.agg #[.string s, .int .i64 t, .bool g]] w fun e w' => e = .returned (.bool (lkB (s, t, g))) ∧ Below w.heap.size w w' := by
  have HK := Lib.hid (fun W => goodKey_any s W hs)
  have HT := Lib.hid (fun W => isTxnL_any t W)
  have HB0 := Lib.hid (below1 w (.cells #[.string s, .int .i64 t, .bool g] 27))
  unfold lkB
  obtain ⟨r1, hr1⟩ : ∃ r, r = keyB s := ⟨_, rfl⟩
  obtain ⟨r2, hr2⟩ : ∃ r, r = inB t 1 60 := ⟨_, rfl⟩
  rw [← hr1] at HK
  rw [← hr2] at HT
  simp only [← hr1, ← hr2]
  clear hr1 hr2
  cases r1 with
  | true =>
    go_enter Try.func63, Try.ntmps63
    go_wp2_with fail
    refine (HK.out _).mono ?_
    rintro e w1 ⟨rfl, rfl⟩
    go_wp2_with fail
    refine (HT.out _).mono ?_
    rintro e w2 ⟨rfl, rfl⟩
    go_wp2
    go_ret
    exact ⟨rfl, HB0.out⟩
  | false =>
    go_enter Try.func63, Try.ntmps63
    go_wp2_with fail
    refine (HK.out _).mono ?_
    rintro e w1 ⟨rfl, rfl⟩
    go_wp2
    go_ret
    exact ⟨rfl, HB0.out⟩
theorem heldAs_any (s : ByteArray) (t : Int) (g : Bool) (s' : ByteArray) (t' : Int) (g' : Bool) (w : World) :
    Calls Try.prog 74 #[.agg #[.string s, .int .i64 t, .bool g], .agg #[.string s', .int .i64 t', .bool g']] w fun e w' => e = .returned (.bool (heldB (s, t, g) (s', t', g'))) ∧ Below w.heap.size w w' := by
  by_cases h1 : s = s'
  · subst h1
    by_cases h2 : t = t'
    · subst h2
      rw [show heldB (s, t, g) (s, t, g') = true by simp [heldB, clashB]]
      go_enter Try.func74, Try.ntmps74
      go_wp2
      go_ret
      exact ⟨rfl, below2 _ _ _⟩
    · have h2d : decide (t = t') = false := by simp [h2]
      have h2e : (t != t') = true := by simp [h2]
      have h2q : (t == t') = false := by simp [h2]
      rw [show heldB (s, t, g) (s, t', g') = false by simp [heldB, h2]]
      go_enter Try.func74, Try.ntmps74
      go_wp2
      go_ret
      exact ⟨rfl, below2 _ _ _⟩
  · have h1k := kne h1
    rw [show heldB (s, t, g) (s', t', g') = false by simp [heldB, clashB, h1]]
    go_enter Try.func74, Try.ntmps74
    go_wp2
    go_ret
    exact ⟨rfl, below2 _ _ _⟩
theorem conflicts_any (s : ByteArray) (t : Int) (g : Bool) (s' : ByteArray) (t' : Int) (g' : Bool) (w : World) :
    Calls Try.prog 66 #[.agg #[.string s, .int .i64 t, .bool g], .agg #[.string s', .int .i64 t', .bool g']] w fun e w' => e = .returned (.bool (clashB (s, t, g) (s', t', g'))) ∧ Below w.heap.size w w' := by
  by_cases h1 : s = s'
  · subst h1
    by_cases h2 : t = t'
    · subst h2
      rw [show clashB (s, t, g) (s, t, g') = false by simp [heldB, clashB]]
      go_enter Try.func66, Try.ntmps66
      go_wp2
      go_ret
      exact ⟨rfl, below2 _ _ _⟩
    · have h2d : decide (t = t') = false := by simp [h2]
      have h2e : (t != t') = true := by simp [h2]
      have h2q : (t == t') = false := by simp [h2]
      rw [show clashB (s, t, g) (s, t', g') = (g || g') by simp [clashB, h2]]
      cases g with
      | true =>
        go_enter Try.func66, Try.ntmps66
        go_wp2
        go_ret
        exact ⟨rfl, below2 _ _ _⟩
      | false =>
        go_enter Try.func66, Try.ntmps66
        go_wp2
        go_ret
        exact ⟨rfl, below2 _ _ _⟩
  · have h1k := kne h1
    rw [show clashB (s, t, g) (s', t', g') = false by simp [heldB, clashB, h1]]
    go_enter Try.func66, Try.ntmps66
    go_wp2
    go_ret
    exact ⟨rfl, below2 _ _ _⟩
theorem l12Clash_any (s : ByteArray) (t : Int) (g : Bool) (s' : ByteArray) (t' : Int) (g' : Bool) (w : World) :
    Calls Try.prog 97 #[.agg #[.string s, .int .i64 t, .bool g], .agg #[.string s', .int .i64 t', .bool g']] w fun e w' => e = .returned (.bool (clashB (s, t, g) (s', t', g'))) ∧ Below w.heap.size w w' := by
  by_cases h1 : s = s'
  · subst h1
    by_cases h2 : t = t'
    · subst h2
      rw [show clashB (s, t, g) (s, t, g') = false by simp [heldB, clashB]]
      go_enter Try.func97, Try.ntmps97
      go_wp2
      go_ret
      exact ⟨rfl, below2 _ _ _⟩
    · have h2d : decide (t = t') = false := by simp [h2]
      have h2e : (t != t') = true := by simp [h2]
      have h2q : (t == t') = false := by simp [h2]
      rw [show clashB (s, t, g) (s, t', g') = (g || g') by simp [clashB, h2]]
      cases g with
      | true =>
        go_enter Try.func97, Try.ntmps97
        go_wp2
        go_ret
        exact ⟨rfl, below2 _ _ _⟩
      | false =>
        go_enter Try.func97, Try.ntmps97
        go_wp2
        go_ret
        exact ⟨rfl, below2 _ _ _⟩
  · have h1k := kne h1
    rw [show clashB (s, t, g) (s', t', g') = false by simp [heldB, clashB, h1]]
    go_enter Try.func97, Try.ntmps97
    go_wp2
    go_ret
    exact ⟨rfl, below2 _ _ _⟩
theorem excludes_any (s : ByteArray) (t : Int) (g : Bool) (s' : ByteArray) (t' : Int) (g' : Bool) (w : World) :
    Calls Try.prog 70 #[.agg #[.string s, .int .i64 t, .bool g], .agg #[.string s', .int .i64 t', .bool g']] w fun e w' => e = .returned (.bool (exclB (s, t, g) (s', t', g'))) ∧ Below w.heap.size w w' := by
  have HH := Lib.hid (fun W => heldAs_any s t g s' t' g' W)
  have HC := Lib.hid (fun W => conflicts_any s t g s' t' g' W)
  have HB0 := Lib.hid (below2 w (.cells #[.string s, .int .i64 t, .bool g] 27) (.cells #[.string s', .int .i64 t', .bool g'] 27))
  have hk0 := ((below1 (w.alloc (.cells #[.string s, .int .i64 t, .bool g] 27)) (.cells #[.string s', .int .i64 t', .bool g'] 27)).block w.heap.size (by simp)).trans (heap_alloc_new w (.cells #[.string s, .int .i64 t, .bool g] 27))
  have hk1 := alloc_snd w (.cells #[.string s, .int .i64 t, .bool g] 27) (.cells #[.string s', .int .i64 t', .bool g'] 27)
  unfold exclB
  obtain ⟨r1, hr1⟩ : ∃ r, r = heldB (s, t, g) (s', t', g') := ⟨_, rfl⟩
  obtain ⟨r2, hr2⟩ : ∃ r, r = clashB (s, t, g) (s', t', g') := ⟨_, rfl⟩
  rw [← hr1] at HH
  rw [← hr2] at HC
  rw [← hr1, ← hr2]
  clear hr1 hr2
  cases r1 with
  | true =>
    go_enter Try.func70, Try.ntmps70
    go_wp2_with fail
    refine (HH.out _).mono ?_
    rintro e w1 ⟨rfl, hb1⟩
    have HB1 := Lib.hid (HB0.out.trans (hb1.mono HB0.out.size))
    clear hb1
    go_wp2
    go_ret
    exact ⟨rfl, HB1.out⟩
  | false =>
    go_enter Try.func70, Try.ntmps70
    go_wp2_with fail
    refine (HH.out _).mono ?_
    rintro e w1 ⟨rfl, hb1⟩
    have k0 := (hb1.block w.heap.size (lt_blk hk0)).trans hk0
    have k1 := (hb1.block (w.heap.size + 1) (lt_blk hk1)).trans hk1
    have x0 := cell_blk (i := 0) k0 rfl
    have x1 := cell_blk (i := 1) k0 rfl
    have x2 := cell_blk (i := 2) k0 rfl
    have y0 := cell_blk (i := 0) k1 rfl
    have y1 := cell_blk (i := 1) k1 rfl
    have y2 := cell_blk (i := 2) k1 rfl
    have HB1 := Lib.hid (HB0.out.trans (hb1.mono HB0.out.size))
    clear hb1 k0 k1 hk0 hk1
    go_wp2_with fail
    refine (HC.out _).mono ?_
    rintro e w2 ⟨rfl, hb2⟩
    have HB2 := Lib.hid (HB1.out.trans (hb2.mono HB1.out.size))
    clear hb2
    go_wp2
    go_ret
    exact ⟨rfl, HB2.out⟩

set_option maxRecDepth 100000 in
set_option maxHeartbeats 4000000 in
theorem l12Good_any (A : Option Addr) (n c : Nat) (ls : List LK) (B : Nat) (w : World) (hn : ls.length = n) (hcp : n ≤ c) (h : LksB w B A ls) (hB : B ≤ w.heap.size) (hm : KSmall ls) :
    Calls Try.prog 59 #[.slice A n c] w fun e w' => e = .returned (.bool (goodB ls)) ∧ Below w.heap.size w w' := by
  have hge := Nat.le_of_eq hn
  have hle := Nat.le_of_eq hn.symm
  have HS := Lib.hid h
  have HN := Lib.hid hn
  have HM := Lib.hid hm.2
  have hm1 := hm.1
  rw [hn] at hm1
  clear hn h hm
  go_enter Try.func59, Try.ntmps59
  go_wp2
  go_loopw [9] (fun i wr => ∃ k : Nat, k ≤ n ∧ i = .int .i64 k ∧ Hid (GoodTo ls k) ∧ Hid (Below w.heap.size w wr)) (fun i _ => n - (intOf i).toNat)
  case atStart => exact ⟨0, by omega, rfl, Lib.hid (GoodTo.zero ls), Lib.hid (Below.refl _ _)⟩
  case round =>
    obtain ⟨k, hk, rfl, HP, HB⟩ := hrel
    by_cases hlt : k < n
    · obtain ⟨b, off, rfl, hbB, hc⟩ := HS.out.get (by omega)
      have HCC := Lib.hid hc
      obtain ⟨hc0, hc1, hc2⟩ := hc k (by omega)
      have c0 := (HB.out.cell (p := ⟨b, off + k * 3, none⟩) (Nat.lt_of_lt_of_le hbB hB)).trans hc0
      have c1 := (HB.out.cell (p := ⟨b, off + k * 3 + 1, none⟩) (Nat.lt_of_lt_of_le hbB hB)).trans hc1
      have c2 := (HB.out.cell (p := ⟨b, off + k * 3 + 2, none⟩) (Nat.lt_of_lt_of_le hbB hB)).trans hc2
      have hxs := HM.out _ (List.getElem_mem (show k < ls.length by omega))
      have HSU := Lib.hid (GoodTo.succ HP.out (show k < ls.length by omega))
      have HBL := Lib.hid (bad_lock (l := ls) (k := k) (by omega))
      obtain ⟨x, hx⟩ : ∃ x, x = ls[k]'(by omega) := ⟨_, rfl⟩
      rw [← hx] at c0 c1 c2 hxs HSU HBL
      have HBP := Lib.hid (show ∀ j (hj : j < k), exclB x (ls[j]'(by omega)) = true → goodB ls = false by intro j hj he; rw [hx] at he; exact bad_pair (by omega) hj he)
      obtain ⟨s, t, g⟩ := x
      simp only at c0 c1 c2 hxs
      have HL := Lib.hid (fun W => l12Lock_any s t g W hxs)
      have HB0 := Lib.hid (HB.out.trans ((below1 wr (.cells #[.string s, .int .i64 t, .bool g] 27)).mono HB.out.size))
      have hk0 := heap_alloc_new wr (.cells #[.string s, .int .i64 t, .bool g] 27)
      have hsw := HB.out.size
      clear hc hc0 hc1 hc2 hx HP hxs
      obtain ⟨r1, hr1⟩ : ∃ r, r = lkB (s, t, g) := ⟨_, rfl⟩
      rw [← hr1] at HL
      have HR1 := Lib.hid hr1
      clear hr1
      cases r1 with
      | false =>
        have HF := Lib.hid (HBL.out HR1.out.symm)
        go_wp2_with fail
        refine (HL.out _).mono ?_
        rintro e w1 ⟨rfl, hb1⟩
        have HB1 := Lib.hid (HB0.out.trans (hb1.mono HB0.out.size))
        clear hb1 hk0
        go_wp2
        go_ret
        exact ⟨ret_bool HF.out.symm, HB1.out⟩
      | true =>
        have hk0i : (k : Int) ≤ (n : Int) := by omega
        go_wp2_with fail
        refine (HL.out _).mono ?_
        rintro e w1 ⟨rfl, hb1⟩
        have HB1 := Lib.hid (HB0.out.trans (hb1.mono HB0.out.size))
        have HK1 := Lib.hid ((hb1.block wr.heap.size (lt_blk hk0)).trans hk0)
        clear hb1 hk0
        go_wp2
        obtain ⟨gx, hgx⟩ : ∃ gx, gx = wr.heap.size := ⟨_, rfl⟩
        rw [← hgx] at HK1 ⊢
        clear hgx
        go_loopw [21] (fun i wr => ∃ j : Nat, j ≤ k ∧ i = .int .i64 j ∧ Hid ((ls.take j).any (exclB (s, t, g)) = false) ∧ Hid (Below w.heap.size w wr) ∧ Hid (wr.heap[gx]? = some (.cells #[.string s, .int .i64 t, .bool g] 27 (0, 0)))) (fun i _ => k - (intOf i).toNat)
        case atStart => exact ⟨0, by omega, rfl, Lib.hid rfl, HB1, HK1⟩
        case round =>
          clear HB1 HK1
          obtain ⟨j, hj, rfl, HQ, HBJ, HKJ⟩ := hrel
          have x0 := cell_blk (i := 0) HKJ.out rfl
          have x1 := cell_blk (i := 1) HKJ.out rfl
          have x2 := cell_blk (i := 2) HKJ.out rfl
          have hlx := lt_blk HKJ.out
          by_cases hjk : j < k
          · obtain ⟨hd0, hd1, hd2⟩ := HCC.out j (by omega)
            have d0 := (HBJ.out.cell (p := ⟨b, off + j * 3, none⟩) (Nat.lt_of_lt_of_le hbB hB)).trans hd0
            have d1 := (HBJ.out.cell (p := ⟨b, off + j * 3 + 1, none⟩) (Nat.lt_of_lt_of_le hbB hB)).trans hd1
            have d2 := (HBJ.out.cell (p := ⟨b, off + j * 3 + 2, none⟩) (Nat.lt_of_lt_of_le hbB hB)).trans hd2
            have HQS := Lib.hid (any_take_succ (x := (s, t, g)) (l := ls) (j := j) (by omega) HQ.out)
            have HBJP := Lib.hid (HBP.out j hjk)
            obtain ⟨y, hy⟩ : ∃ y, y = ls[j]'(by omega) := ⟨_, rfl⟩
            rw [← hy] at d0 d1 d2 HQS HBJP
            obtain ⟨s', t', g'⟩ := y
            simp only at d0 d1 d2
            have HCL := Lib.hid (fun W => l12Clash_any s t g s' t' g' W)
            have HBX := Lib.hid (HBJ.out.trans ((below1 wr (.cells #[.string s', .int .i64 t', .bool g'] 27)).mono HBJ.out.size))
            have HKX := Lib.hid (((below1 wr (.cells #[.string s', .int .i64 t', .bool g'] 27)).block gx hlx).trans HKJ.out)
            have hj0 : (0 : Int) ≤ (j : Int) := by omega
            have hjk' : (j : Int) < (k : Int) := by omega
            clear hd0 hd1 hd2 hy HQ
            have hcl : heldB (s, t, g) (s', t', g') = true ∨ heldB (s, t, g) (s', t', g') = false := by cases heldB (s, t, g) (s', t', g') <;> simp
            by_cases e1 : s = s'
            · by_cases e2 : t = t'
              · subst e1 e2
                have HF := Lib.hid (HBJP.out (by simp [exclB, heldB]))
                go_wp2
                go_ret
                exact ⟨ret_bool HF.out.symm, HBX.out⟩
              · subst e1
                have e2d : decide (t = t') = false := by simp [e2]
                have e2q : (t == t') = false := by simp [e2]
                have HH := Lib.hid (show heldB (s, t, g) (s, t', g') = false by simp [heldB, e2])
                obtain ⟨r2, hr2⟩ : ∃ r, r = clashB (s, t, g) (s, t', g') := ⟨_, rfl⟩
                rw [← hr2] at HCL
                have HR2 := Lib.hid hr2
                clear hr2 hcl
                go_wp2_with fail
                refine (HCL.out _).mono ?_
                rintro e w2 ⟨rfl, hb2⟩
                have HB2 := Lib.hid (HBX.out.trans (hb2.mono HBX.out.size))
                have HK2 := Lib.hid ((hb2.block gx (lt_blk HKX.out)).trans HKX.out)
                clear hb2 d0 d1 d2
                cases r2 with
                | true =>
                  have HF := Lib.hid (HBJP.out (by unfold exclB; rw [← HR2.out]; simp))
                  go_wp2
                  go_ret
                  exact ⟨ret_bool HF.out.symm, HB2.out⟩
                | false =>
                  have HG := Lib.hid (HQS.out (by unfold exclB; rw [← HR2.out, HH.out]; rfl))
                  go_wp2
                  go_roundw
                  case rel => exact ⟨j + 1, by omega, by go_num, HG, HB2, HK2⟩
                  case measure => simp [intOf]; omega
            · have e1k := kne e1
              have HH := Lib.hid (show heldB (s, t, g) (s', t', g') = false by simp [heldB, e1])
              have HC2 := Lib.hid (show clashB (s, t, g) (s', t', g') = false by simp [clashB, e1])
              rw [HC2.out] at HCL
              have HG := Lib.hid (HQS.out (by unfold exclB; rw [HC2.out, HH.out]; rfl))
              clear hcl
              go_wp2_with fail
              refine (HCL.out _).mono ?_
              rintro e w2 ⟨rfl, hb2⟩
              have HB2 := Lib.hid (HBX.out.trans (hb2.mono HBX.out.size))
              have HK2 := Lib.hid ((hb2.block gx (lt_blk HKX.out)).trans HKX.out)
              clear hb2 d0 d1 d2
              go_wp2
              go_roundw
              case rel => exact ⟨j + 1, by omega, by go_num, HG, HB2, HK2⟩
              case measure => simp [intOf]; omega
          · have hjk' : j = k := by omega
            subst hjk'
            have HG := Lib.hid (HSU.out HR1.out.symm HQ.out)
            clear x0 x1 x2
            go_wp2
            go_roundw
            case rel => exact ⟨j + 1, by omega, by go_num, HG, HBJ⟩
            case measure => simp [intOf]; omega
    · have HF := Lib.hid (show decide ((n : Int) ≤ 60) = goodB ls by rw [HP.out.end (by omega), HN.out]; simp; omega)
      have HF2 := Lib.hid (ret_bool HF.out)
      go_wp2
      go_ret
      exact ⟨HF2.out, HB.out⟩
theorem specGoodLocks_any (A : Option Addr) (n c : Nat) (ls : List LK) (B : Nat) (w : World) (hn : ls.length = n) (hcp : n ≤ c) (h : LksB w B A ls) (hB : B ≤ w.heap.size) (hm : KSmall ls) :
    Calls Try.prog 19 #[.slice A n c] w fun e w' => e = .returned (.bool (goodB ls)) ∧ Below w.heap.size w w' := by
  have HC := Lib.hid (fun W (hW : Below w.heap.size w W) => l12Good_any A n c ls B W hn hcp (h.below (hW.mono hB)) (Nat.le_trans hB hW.size) hm)
  clear hn h hm
  go_enter Try.func19, Try.ntmps19
  go_wp2_with fail
  refine (HC.out _ (Below.refl _ _)).mono ?_
  rintro e w1 ⟨rfl, hb1⟩
  have HB1 := Lib.hid hb1
  clear hb1
  go_wp2
  go_ret
  exact ⟨rfl, HB1.out⟩
end Go.Proofs.Ytlfdefjkfacngaa.Lk
