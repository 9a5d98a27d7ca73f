/-
  Rows of locks made by appending: l12Part of the model, where of the program; FreeLocks and LocksOf of both.
-/
import Derived.Test.YtlfdefjkfacngaaLkF2
namespace Go.Proofs.Ytlfdefjkfacngaa.Lk
open Go.RowKit CM
set_option linter.unusedVariables false
set_option linter.unusedSimpArgs false

/-- Locks as an answer, in a block of the call's own. -/
def KRPost (a : List LK) (w : World) (e : Ending) (w' : World) : Prop :=
  ∃ A c, e = .returned (.slice A a.length c) ∧ OwnK w' w.heap.size w'.heap.size A c a ∧ Below w.heap.size w w'
/-- Locks and a bool as an answer. -/
def KAPost (a : List LK × Bool) (w : World) (e : Ending) (w' : World) : Prop :=
  ∃ A c, e = .returned (.tuple #[.slice A a.1.length c, .bool a.2]) ∧ OwnK w' w.heap.size w'.heap.size A c a.1 ∧ Below w.heap.size w w'
theorem KAPost_un (al : List LK) (ok : Bool) (w : World) : KAPost (al, ok) w = fun e w' => ∃ A c, e = .returned (.tuple #[.slice A al.length c, .bool ok]) ∧ OwnK w' w.heap.size w'.heap.size A c al ∧ Below w.heap.size w w' := rfl
theorem k_row {w : World} {lo hi c n : Nat} {A : Option Addr} {ls : List LK} (h : OwnK w lo hi A c ls) (hn : ls.length = n) : w.ownsRow lo 27 3 (.slice A n c) n ((ls.map lkCs).flatten) := by
  have h7 := Own.toRow h (lkCs_len ls) (by decide)
  rw [List.length_map, hn] at h7
  exact h7
theorem k_snoc {w' : World} {lo n : Nat} {ls : List LK} {s : ByteArray} {t : Int} {g : Bool} {v' : Value} (hn : ls.length = n) (hown : w'.ownsRow lo 27 3 v' (n + 1) ((ls.map lkCs).flatten ++ [.string s, .int .i64 t, .bool g])) : ∃ A5 c5, v' = .slice A5 (n + 1) c5 ∧ OwnK w' lo w'.heap.size A5 c5 (ls ++ [(s, t, g)]) := by
  have e : (ls.map lkCs).flatten ++ [Value.string s, .int .i64 t, .bool g] = ((ls ++ [(s, t, g)]).map lkCs).flatten := by simp [lkCs]
  rw [e] at hown
  obtain ⟨A5, c5, hv, hl, ho⟩ := Own.ofRow hown (lkCs_len _) (by decide) (hi := w'.heap.size) (fun k hk => (hown.lt k hk).2)
  rw [List.length_map, List.length_append, hn] at hv
  exact ⟨A5, c5, hv, ho⟩
theorem own_nil (w : World) (lo hi : Nat) : OwnK w lo hi none 0 [] := .inl ⟨rfl, rfl, rfl⟩
theorem OwnK.grow {w w' : World} {lo hi cap : Nat} {A : Option Addr} {ls : List LK} (h : OwnK w lo w.heap.size A cap ls) (hb : Below w.heap.size w w') : OwnK w' lo w'.heap.size A cap ls :=
  (h.since hb (Nat.le_refl _)).wider (Nat.le_refl _) hb.size
theorem filter_yes {p : LK → Bool} {ls : List LK} {k : Nat} (hk : k < ls.length) (hp : p ls[k] = true) : (ls.take (k + 1)).filter p = (ls.take k).filter p ++ [ls[k]] := by
  rw [List.take_succ_eq_append_getElem hk, List.filter_append]; simp [hp]
theorem filter_no {p : LK → Bool} {ls : List LK} {k : Nat} (hk : k < ls.length) (hp : p ls[k] = false) : (ls.take (k + 1)).filter p = (ls.take k).filter p := by
  rw [List.take_succ_eq_append_getElem hk, List.filter_append]; simp [hp]
def partB (tx : Int) (q : Bool) (y : LK) : Bool := decide (y.2.1 = tx) == q
def freeA (ls : List LK) (tx : Int) : List LK × Bool := if goodB ls && inB tx 1 60 then (ls.filter (partB tx false), true) else ([], false)
def ofA (ls : List LK) (tx : Int) : List LK × Bool := if goodB ls && inB tx 1 60 then (ls.filter (partB tx true), true) else ([], false)
theorem freeA_len (ls : List LK) (tx : Int) : (freeA ls tx).1.length ≤ ls.length := by
  unfold freeA; split
  · exact List.length_filter_le _ _
  · simp
theorem ofA_len (ls : List LK) (tx : Int) : (ofA ls tx).1.length ≤ ls.length := by
  unfold ofA; split
  · exact List.length_filter_le _ _
  · simp

set_option maxRecDepth 100000 in
set_option maxHeartbeats 4000000 in
theorem l12Part_any (tx : Int) (of : Bool) (A : Option Addr) (n c : Nat) (ls : List LK) (B : Nat) (w : World) (hn : ls.length = n) (hcp : n ≤ c) (h : LksB w B A ls) (hB : B ≤ w.heap.size) (hm : KSmall ls) :
    Calls Try.prog 78 #[.slice A n c, .int .i64 tx, .bool of] w (KRPost (ls.filter (partB tx of)) w) := by
  obtain ⟨i0, hi0, hz0, hz1, hz2⟩ := info_parts infoLock
  have hge := Nat.le_of_eq hn
  have hle := Nat.le_of_eq hn.symm
  have HS := Lib.hid h
  have hm1 := hm.1
  rw [hn] at hm1
  clear hn h hm
  go_enter Try.func78, Try.ntmps78
  go_wp2
  go_loopw [7, 12] (fun v i wr => ∃ (k m : Nat) (A1 : Option Addr) (ca : Nat) (L : List LK), k ≤ n ∧ i = .int .i64 k ∧ v = .slice A1 m ca ∧ Hid (L = (ls.take k).filter (partB tx of)) ∧ Hid (L.length = m) ∧ m ≤ k ∧ Hid (OwnK wr w.heap.size wr.heap.size A1 ca L) ∧ Hid (Below w.heap.size w wr)) (fun _ i _ => n - (intOf i).toNat)
  case atStart => exact ⟨0, 0, none, 0, [], by omega, rfl, rfl, Lib.hid rfl, Lib.hid rfl, by omega, Lib.hid (own_nil _ _ _), Lib.hid (Below.refl _ _)⟩
  case round =>
  
    obtain ⟨k, m, A1, ca, L, hk, rfl, rfl, HLK, HLM, hmk, HO, HB⟩ := hrel
    by_cases hlt : k < n
    · obtain ⟨b, off, rfl, hbB, hc⟩ := HS.out.get (by omega)
      obtain ⟨hc0, hc1, hc2⟩ := hc k (by omega)
      have c0 := (HB.out.cell (p := ⟨b, off + k * 3, none⟩) (Nat.lt_of_lt_of_le hbB hB)).trans hc0
      have c1 := (HB.out.cell (p := ⟨b, off + k * 3 + 1, none⟩) (Nat.lt_of_lt_of_le hbB hB)).trans hc1
      have c2 := (HB.out.cell (p := ⟨b, off + k * 3 + 2, none⟩) (Nat.lt_of_lt_of_le hbB hB)).trans hc2
      have hk0 : (0 : Int) ≤ (k : Int) := by omega
      have HYES := Lib.hid (filter_yes (p := partB tx of) (ls := ls) (k := k) (by omega))
      have HNO := Lib.hid (filter_no (p := partB tx of) (ls := ls) (k := k) (by omega))
      obtain ⟨y, hy⟩ : ∃ y, y = ls[k]'(by omega) := ⟨_, rfl⟩
      rw [← hy] at c0 c1 c2 HYES HNO
      obtain ⟨s, t, g⟩ := y
      simp only at c0 c1 c2
      have HX := Lib.hid (below1 wr (.cells #[.string s, .int .i64 t, .bool g] 27))
      have HBX := Lib.hid (HB.out.trans (HX.out.mono HB.out.size))
      have HOX := Lib.hid (OwnK.grow (hi := 0) HO.out HX.out)
      have hk1 := heap_alloc_new wr (.cells #[.string s, .int .i64 t, .bool g] 27)
      clear hc hc0 hc1 hc2 hy
      obtain ⟨wx, hwx⟩ : ∃ wx, wx = wr.alloc (.cells #[.string s, .int .i64 t, .bool g] 27) := ⟨_, rfl⟩
      have HBL := HBX
      have HOL := HOX
      clear hwx wx hk1
      obtain ⟨q, hq⟩ : ∃ q, q = decide (t = tx) := ⟨_, rfl⟩
      have hq1 := hq.symm
      have hq2 : (t == tx) = q := by rw [hq]; rfl
      obtain ⟨r1, hr1⟩ : ∃ r, r = (partB tx of) (s, t, g) := ⟨_, rfl⟩
      rw [← hr1] at HYES HNO
      have hr2 : (q == of) = r1 := by rw [hr1, hq]; rfl
      clear hr1 hq
      cases r1 with
      | false =>
        have HL1 := Lib.hid (show L = (ls.take (k + 1)).filter (partB tx of) by rw [HNO.out rfl]; exact HLK.out)

        go_wp2
        go_roundw
        case rel => exact ⟨k + 1, m, A1, ca, L, by omega, by go_num, rfl, HL1, HLM, by omega, HOX, HBX⟩
        case measure => simp [intOf]; omega
      | true =>
        have HL1 := Lib.hid (show L ++ [(s, t, g)] = (ls.take (k + 1)).filter (partB tx of) by rw [HYES.out rfl, HLK.out])
        have HM1 := Lib.hid (show (L ++ [(s, t, g)]).length = m + 1 by rw [List.length_append, HLM.out]; rfl)
        have HROL := Lib.hid (k_row HOL.out HLM.out)
        have HBY := Lib.hid (below1 (wr.alloc (.cells #[.string s, .int .i64 t, .bool g] 27)) (.cells #[.string s, .int .i64 t, .bool g] 27))
        have HOY := Lib.hid (OwnK.grow (hi := 0) HOL.out HBY.out)
        have HROW := Lib.hid (k_row HOY.out HLM.out)
        have HNEW := Lib.hid (alloc_snd wr (.cells #[.string s, .int .i64 t, .bool g] 27) (.cells #[.string s, .int .i64 t, .bool g] 27))
        have hlx : w.heap.size ≤ ((wr.alloc (.cells #[.string s, .int .i64 t, .bool g] 27)).alloc (.cells #[.string s, .int .i64 t, .bool g] 27)).heap.size := (HBL.out.trans (HBY.out.mono HBL.out.size)).size
        go_wp2_with (at_builtin; refine wpList_app rfl (.tmp 22) (.tmp 24) 24 rfl w.heap.size 27 i0 _ 3 32 Try.underlying24 hi0 hz0 hz1 hz2 rfl (by decide) (.slice A1 m ca) m ((L.map lkCs).flatten) rfl HROW.out (some ⟨wr.heap.size + 1, 0, none⟩) 1 1 [.string s, .int .i64 t, .bool g] rfl rfl (fun _ => ⟨_, rfl, World.news_of_block (cs := #[.string s, .int .i64 t, .bool g]) (t := 27) (fr := (0, 0)) HNEW.out⟩) (by simp [Value.oneCell']) (by unfold maxLen; omega) (by omega) hlx ?_; intro v5 w5 hown hgr _; have HB5 := Lib.hid (below_app HBL.out (Nat.le_refl _) HROL.out hgr); obtain ⟨A5, c5, rfl, ho5⟩ := k_snoc HLM.out hown; have HO5 := Lib.hid ho5; clear hown hgr ho5)
        go_roundw
        case rel => exact ⟨k + 1, m + 1, A5, c5, L ++ [(s, t, g)], by omega, by go_num, rfl, HL1, HM1, by omega, HO5, HB5⟩
        case measure => simp [intOf]; omega
    · have hkn : k = n := by omega
      subst hkn
      have HF := Lib.hid (show KRPost (ls.filter (partB tx of)) w (.returned (.slice A1 m ca)) wr by
        have e := HLK.out
        rw [List.take_of_length_le (by omega)] at e
        rw [← e]
        exact ⟨A1, ca, by rw [HLM.out], HO.out, HB.out⟩)
      go_wp2
      go_ret
      exact HF.out

theorem freeFn_any (s : ByteArray) (t : Int) (g : Bool) (tx : Int) (pb : Nat) (w : World) (hp : w.cell? ⟨pb, 0, none⟩ = some (.int .i64 tx)) (hpb : pb < w.heap.size) :
    Calls Try.prog 71 #[.agg #[.string s, .int .i64 t, .bool g], .pointer (some ⟨pb, 0, none⟩)] w fun e w' => e = .returned (.bool (partB tx false (s, t, g))) ∧ Below w.heap.size w w' := by
  have hb1 := below1 w (.cells #[.string s, .int .i64 t, .bool g] 27)
  have hp1 := (hb1.cell (p := ⟨pb, 0, none⟩) hpb).trans hp
  by_cases h1 : t = tx
  · subst h1
    rw [show partB t false (s, t, g) = false by simp [partB]]
    clear hp
    go_enter Try.func71, Try.ntmps71
    go_wp2
    go_ret
    exact ⟨rfl, hb1⟩
  · have h1q : (t == tx) = false := by simp [h1]
    have h1n : (t != tx) = true := by simp [h1]
    have h1d : decide (t = tx) = false := by simp [h1]
    rw [show partB tx false (s, t, g) = (!false) by simp [partB, h1]]
    clear hp
    go_enter Try.func71, Try.ntmps71
    go_wp2
    go_ret
    exact ⟨rfl, hb1⟩

theorem ofFn_any (s : ByteArray) (t : Int) (g : Bool) (tx : Int) (pb : Nat) (w : World) (hp : w.cell? ⟨pb, 0, none⟩ = some (.int .i64 tx)) (hpb : pb < w.heap.size) :
    Calls Try.prog 79 #[.agg #[.string s, .int .i64 t, .bool g], .pointer (some ⟨pb, 0, none⟩)] w fun e w' => e = .returned (.bool (partB tx true (s, t, g))) ∧ Below w.heap.size w w' := by
  have hb1 := below1 w (.cells #[.string s, .int .i64 t, .bool g] 27)
  have hp1 := (hb1.cell (p := ⟨pb, 0, none⟩) hpb).trans hp
  by_cases h1 : t = tx
  · subst h1
    rw [show partB t true (s, t, g) = true by simp [partB]]
    clear hp
    go_enter Try.func79, Try.ntmps79
    go_wp2
    go_ret
    exact ⟨rfl, hb1⟩
  · have h1q : (t == tx) = false := by simp [h1]
    have h1n : (t != tx) = true := by simp [h1]
    have h1d : decide (t = tx) = false := by simp [h1]
    rw [show partB tx true (s, t, g) = (!true) by simp [partB, h1]]
    clear hp
    go_enter Try.func79, Try.ntmps79
    go_wp2
    go_ret
    exact ⟨rfl, hb1⟩

set_option maxRecDepth 100000 in
set_option maxHeartbeats 4000000 in
theorem whereFree_any (tx : Int) (pb : Nat) (A : Option Addr) (n c : Nat) (ls : List LK) (B : Nat) (w : World) (hn : ls.length = n) (hcp : n ≤ c) (h : LksB w B A ls) (hB : B ≤ w.heap.size) (hm : KSmall ls) (hp : w.cell? ⟨pb, 0, none⟩ = some (.int .i64 tx)) (hpb : pb < w.heap.size) :
    Calls Try.prog 65 #[.agg #[.slice A n c, .int .i64 60], (.func (.func 71) #[] #[.pointer (some ⟨pb, 0, none⟩)])] w (KRPost (ls.filter (partB tx false)) w) := by
  obtain ⟨i0, hi0, hz0, hz1, hz2⟩ := info_parts infoLock
  have HB0 := Lib.hid (below1 w (.cells #[.slice A n c, .int .i64 60] 83))
  have hge := Nat.le_of_eq hn
  have hle := Nat.le_of_eq hn.symm
  have HS := Lib.hid h
  have hm1 := hm.1
  rw [hn] at hm1
  clear hn h hm
  go_enter Try.func65, Try.ntmps65
  go_wp2
  go_loopw [5, 11] (fun v i wr => ∃ (k m : Nat) (A1 : Option Addr) (ca : Nat) (L : List LK), k ≤ n ∧ i = .int .i64 k ∧ v = .slice A1 m ca ∧ Hid (L = (ls.take k).filter (partB tx false)) ∧ Hid (L.length = m) ∧ m ≤ k ∧ Hid (OwnK wr w.heap.size wr.heap.size A1 ca L) ∧ Hid (Below w.heap.size w wr)) (fun _ i _ => n - (intOf i).toNat)
  case atStart => exact ⟨0, 0, none, 0, [], by omega, rfl, rfl, Lib.hid rfl, Lib.hid rfl, by omega, Lib.hid (own_nil _ _ _), HB0⟩
  case round =>
    clear HB0
    obtain ⟨k, m, A1, ca, L, hk, rfl, rfl, HLK, HLM, hmk, HO, HB⟩ := hrel
    by_cases hlt : k < n
    · obtain ⟨b, off, rfl, hbB, hc⟩ := HS.out.get (by omega)
      obtain ⟨hc0, hc1, hc2⟩ := hc k (by omega)
      have c0 := (HB.out.cell (p := ⟨b, off + k * 3, none⟩) (Nat.lt_of_lt_of_le hbB hB)).trans hc0
      have c1 := (HB.out.cell (p := ⟨b, off + k * 3 + 1, none⟩) (Nat.lt_of_lt_of_le hbB hB)).trans hc1
      have c2 := (HB.out.cell (p := ⟨b, off + k * 3 + 2, none⟩) (Nat.lt_of_lt_of_le hbB hB)).trans hc2
      have hk0 : (0 : Int) ≤ (k : Int) := by omega
      have HYES := Lib.hid (filter_yes (p := partB tx false) (ls := ls) (k := k) (by omega))
      have HNO := Lib.hid (filter_no (p := partB tx false) (ls := ls) (k := k) (by omega))
      obtain ⟨y, hy⟩ : ∃ y, y = ls[k]'(by omega) := ⟨_, rfl⟩
      rw [← hy] at c0 c1 c2 HYES HNO
      obtain ⟨s, t, g⟩ := y
      simp only at c0 c1 c2
      have HX := Lib.hid (below1 wr (.cells #[.string s, .int .i64 t, .bool g] 27))
      have HBX := Lib.hid (HB.out.trans (HX.out.mono HB.out.size))
      have HOX := Lib.hid (OwnK.grow (hi := 0) HO.out HX.out)
      have hk1 := heap_alloc_new wr (.cells #[.string s, .int .i64 t, .bool g] 27)
      clear hc hc0 hc1 hc2 hy
      obtain ⟨wx, hwx⟩ : ∃ wx, wx = wr.alloc (.cells #[.string s, .int .i64 t, .bool g] 27) := ⟨_, rfl⟩
      rw [← hwx] at HX HBX HOX hk1
      have HC := Lib.hid (fun W (hW : Below w.heap.size w W) => freeFn_any s t g tx pb W ((hW.cell (p := ⟨pb, 0, none⟩) hpb).trans hp) (Nat.lt_of_lt_of_le hpb hW.size))
      obtain ⟨r1, hr1⟩ : ∃ r, r = (partB tx false) (s, t, g) := ⟨_, rfl⟩
      rw [← hr1] at HYES HNO
      rw [← hr1] at HC
      clear hr1
      cases r1 with
      | false =>
        have HL1 := Lib.hid (show L = (ls.take (k + 1)).filter (partB tx false) by rw [HNO.out rfl]; exact HLK.out)
        go_wp2_with fail
        rw [← hwx]
        refine (HC.out _ HBX.out).mono ?_
        rintro e w4 ⟨rfl, hb4⟩
        have x0 := cell_blk (i := 0) ((hb4.block _ (lt_blk hk1)).trans hk1) rfl
        have x1 := cell_blk (i := 1) ((hb4.block _ (lt_blk hk1)).trans hk1) rfl
        have x2 := cell_blk (i := 2) ((hb4.block _ (lt_blk hk1)).trans hk1) rfl
        have HBL := Lib.hid (HBX.out.trans (hb4.mono HBX.out.size))
        have HOL := Lib.hid (OwnK.grow (hi := 0) HOX.out hb4)
        clear hb4 c0 c1 c2
        go_wp2
        go_roundw
        case rel => exact ⟨k + 1, m, A1, ca, L, by omega, by go_num, rfl, HL1, HLM, by omega, HOL, HBL⟩
        case measure => simp [intOf]; omega
      | true =>
        have HL1 := Lib.hid (show L ++ [(s, t, g)] = (ls.take (k + 1)).filter (partB tx false) by rw [HYES.out rfl, HLK.out])
        have HM1 := Lib.hid (show (L ++ [(s, t, g)]).length = m + 1 by rw [List.length_append, HLM.out]; rfl)
        go_wp2_with fail
        rw [← hwx]
        refine (HC.out _ HBX.out).mono ?_
        rintro e w4 ⟨rfl, hb4⟩
        have x0 := cell_blk (i := 0) ((hb4.block _ (lt_blk hk1)).trans hk1) rfl
        have x1 := cell_blk (i := 1) ((hb4.block _ (lt_blk hk1)).trans hk1) rfl
        have x2 := cell_blk (i := 2) ((hb4.block _ (lt_blk hk1)).trans hk1) rfl
        have HBL := Lib.hid (HBX.out.trans (hb4.mono HBX.out.size))
        have HOL := Lib.hid (OwnK.grow (hi := 0) HOX.out hb4)
        clear hb4 c0 c1 c2
        have HROL := Lib.hid (k_row HOL.out HLM.out)
        have HBY := Lib.hid (below1 w4 (.cells #[.string s, .int .i64 t, .bool g] 27))
        have HOY := Lib.hid (OwnK.grow (hi := 0) HOL.out HBY.out)
        have HROW := Lib.hid (k_row HOY.out HLM.out)
        have HNEW := Lib.hid (heap_alloc_new w4 (.cells #[.string s, .int .i64 t, .bool g] 27))
        have hlx : w.heap.size ≤ (w4.alloc (.cells #[.string s, .int .i64 t, .bool g] 27)).heap.size := (HBL.out.trans (HBY.out.mono HBL.out.size)).size
        go_wp2_with (at_builtin; refine wpList_app rfl (.tmp 18) (.tmp 20) 24 rfl w.heap.size 27 i0 _ 3 32 Try.underlying24 hi0 hz0 hz1 hz2 rfl (by decide) (.slice A1 m ca) m ((L.map lkCs).flatten) rfl HROW.out (some ⟨w4.heap.size, 0, none⟩) 1 1 [.string s, .int .i64 t, .bool g] rfl rfl (fun _ => ⟨_, rfl, World.news_of_block (cs := #[.string s, .int .i64 t, .bool g]) (t := 27) (fr := (0, 0)) HNEW.out⟩) (by simp [Value.oneCell']) (by unfold maxLen; omega) (by omega) hlx ?_; intro v5 w5 hown hgr _; have HB5 := Lib.hid (below_app HBL.out (Nat.le_refl _) HROL.out hgr); obtain ⟨A5, c5, rfl, ho5⟩ := k_snoc HLM.out hown; have HO5 := Lib.hid ho5; clear hown hgr ho5)
        go_roundw
        case rel => exact ⟨k + 1, m + 1, A5, c5, L ++ [(s, t, g)], by omega, by go_num, rfl, HL1, HM1, by omega, HO5, HB5⟩
        case measure => simp [intOf]; omega
    · have hkn : k = n := by omega
      subst hkn
      have HF := Lib.hid (show KRPost (ls.filter (partB tx false)) w (.returned (.slice A1 m ca)) wr by
        have e := HLK.out
        rw [List.take_of_length_le (by omega)] at e
        rw [← e]
        exact ⟨A1, ca, by rw [HLM.out], HO.out, HB.out⟩)
      go_wp2
      go_ret
      exact HF.out

set_option maxRecDepth 100000 in
set_option maxHeartbeats 4000000 in
theorem whereOf_any (tx : Int) (pb : Nat) (A : Option Addr) (n c : Nat) (ls : List LK) (B : Nat) (w : World) (hn : ls.length = n) (hcp : n ≤ c) (h : LksB w B A ls) (hB : B ≤ w.heap.size) (hm : KSmall ls) (hp : w.cell? ⟨pb, 0, none⟩ = some (.int .i64 tx)) (hpb : pb < w.heap.size) :
    Calls Try.prog 65 #[.agg #[.slice A n c, .int .i64 60], (.func (.func 79) #[] #[.pointer (some ⟨pb, 0, none⟩)])] w (KRPost (ls.filter (partB tx true)) w) := by
  obtain ⟨i0, hi0, hz0, hz1, hz2⟩ := info_parts infoLock
  have HB0 := Lib.hid (below1 w (.cells #[.slice A n c, .int .i64 60] 83))
  have hge := Nat.le_of_eq hn
  have hle := Nat.le_of_eq hn.symm
  have HS := Lib.hid h
  have hm1 := hm.1
  rw [hn] at hm1
  clear hn h hm
  go_enter Try.func65, Try.ntmps65
  go_wp2
  go_loopw [5, 11] (fun v i wr => ∃ (k m : Nat) (A1 : Option Addr) (ca : Nat) (L : List LK), k ≤ n ∧ i = .int .i64 k ∧ v = .slice A1 m ca ∧ Hid (L = (ls.take k).filter (partB tx true)) ∧ Hid (L.length = m) ∧ m ≤ k ∧ Hid (OwnK wr w.heap.size wr.heap.size A1 ca L) ∧ Hid (Below w.heap.size w wr)) (fun _ i _ => n - (intOf i).toNat)
  case atStart => exact ⟨0, 0, none, 0, [], by omega, rfl, rfl, Lib.hid rfl, Lib.hid rfl, by omega, Lib.hid (own_nil _ _ _), HB0⟩
  case round =>
    clear HB0
    obtain ⟨k, m, A1, ca, L, hk, rfl, rfl, HLK, HLM, hmk, HO, HB⟩ := hrel
    by_cases hlt : k < n
    · obtain ⟨b, off, rfl, hbB, hc⟩ := HS.out.get (by omega)
      obtain ⟨hc0, hc1, hc2⟩ := hc k (by omega)
      have c0 := (HB.out.cell (p := ⟨b, off + k * 3, none⟩) (Nat.lt_of_lt_of_le hbB hB)).trans hc0
      have c1 := (HB.out.cell (p := ⟨b, off + k * 3 + 1, none⟩) (Nat.lt_of_lt_of_le hbB hB)).trans hc1
      have c2 := (HB.out.cell (p := ⟨b, off + k * 3 + 2, none⟩) (Nat.lt_of_lt_of_le hbB hB)).trans hc2
      have hk0 : (0 : Int) ≤ (k : Int) := by omega
      have HYES := Lib.hid (filter_yes (p := partB tx true) (ls := ls) (k := k) (by omega))
      have HNO := Lib.hid (filter_no (p := partB tx true) (ls := ls) (k := k) (by omega))
      obtain ⟨y, hy⟩ : ∃ y, y = ls[k]'(by omega) := ⟨_, rfl⟩
      rw [← hy] at c0 c1 c2 HYES HNO
      obtain ⟨s, t, g⟩ := y
      simp only at c0 c1 c2
      have HX := Lib.hid (below1 wr (.cells #[.string s, .int .i64 t, .bool g] 27))
      have HBX := Lib.hid (HB.out.trans (HX.out.mono HB.out.size))
      have HOX := Lib.hid (OwnK.grow (hi := 0) HO.out HX.out)
      have hk1 := heap_alloc_new wr (.cells #[.string s, .int .i64 t, .bool g] 27)
      clear hc hc0 hc1 hc2 hy
      obtain ⟨wx, hwx⟩ : ∃ wx, wx = wr.alloc (.cells #[.string s, .int .i64 t, .bool g] 27) := ⟨_, rfl⟩
      rw [← hwx] at HX HBX HOX hk1
      have HC := Lib.hid (fun W (hW : Below w.heap.size w W) => ofFn_any s t g tx pb W ((hW.cell (p := ⟨pb, 0, none⟩) hpb).trans hp) (Nat.lt_of_lt_of_le hpb hW.size))
      obtain ⟨r1, hr1⟩ : ∃ r, r = (partB tx true) (s, t, g) := ⟨_, rfl⟩
      rw [← hr1] at HYES HNO
      rw [← hr1] at HC
      clear hr1
      cases r1 with
      | false =>
        have HL1 := Lib.hid (show L = (ls.take (k + 1)).filter (partB tx true) by rw [HNO.out rfl]; exact HLK.out)
        go_wp2_with fail
        rw [← hwx]
        refine (HC.out _ HBX.out).mono ?_
        rintro e w4 ⟨rfl, hb4⟩
        have x0 := cell_blk (i := 0) ((hb4.block _ (lt_blk hk1)).trans hk1) rfl
        have x1 := cell_blk (i := 1) ((hb4.block _ (lt_blk hk1)).trans hk1) rfl
        have x2 := cell_blk (i := 2) ((hb4.block _ (lt_blk hk1)).trans hk1) rfl
        have HBL := Lib.hid (HBX.out.trans (hb4.mono HBX.out.size))
        have HOL := Lib.hid (OwnK.grow (hi := 0) HOX.out hb4)
        clear hb4 c0 c1 c2
        go_wp2
        go_roundw
        case rel => exact ⟨k + 1, m, A1, ca, L, by omega, by go_num, rfl, HL1, HLM, by omega, HOL, HBL⟩
        case measure => simp [intOf]; omega
      | true =>
        have HL1 := Lib.hid (show L ++ [(s, t, g)] = (ls.take (k + 1)).filter (partB tx true) by rw [HYES.out rfl, HLK.out])
        have HM1 := Lib.hid (show (L ++ [(s, t, g)]).length = m + 1 by rw [List.length_append, HLM.out]; rfl)
        go_wp2_with fail
        rw [← hwx]
        refine (HC.out _ HBX.out).mono ?_
        rintro e w4 ⟨rfl, hb4⟩
        have x0 := cell_blk (i := 0) ((hb4.block _ (lt_blk hk1)).trans hk1) rfl
        have x1 := cell_blk (i := 1) ((hb4.block _ (lt_blk hk1)).trans hk1) rfl
        have x2 := cell_blk (i := 2) ((hb4.block _ (lt_blk hk1)).trans hk1) rfl
        have HBL := Lib.hid (HBX.out.trans (hb4.mono HBX.out.size))
        have HOL := Lib.hid (OwnK.grow (hi := 0) HOX.out hb4)
        clear hb4 c0 c1 c2
        have HROL := Lib.hid (k_row HOL.out HLM.out)
        have HBY := Lib.hid (below1 w4 (.cells #[.string s, .int .i64 t, .bool g] 27))
        have HOY := Lib.hid (OwnK.grow (hi := 0) HOL.out HBY.out)
        have HROW := Lib.hid (k_row HOY.out HLM.out)
        have HNEW := Lib.hid (heap_alloc_new w4 (.cells #[.string s, .int .i64 t, .bool g] 27))
        have hlx : w.heap.size ≤ (w4.alloc (.cells #[.string s, .int .i64 t, .bool g] 27)).heap.size := (HBL.out.trans (HBY.out.mono HBL.out.size)).size
        go_wp2_with (at_builtin; refine wpList_app rfl (.tmp 18) (.tmp 20) 24 rfl w.heap.size 27 i0 _ 3 32 Try.underlying24 hi0 hz0 hz1 hz2 rfl (by decide) (.slice A1 m ca) m ((L.map lkCs).flatten) rfl HROW.out (some ⟨w4.heap.size, 0, none⟩) 1 1 [.string s, .int .i64 t, .bool g] rfl rfl (fun _ => ⟨_, rfl, World.news_of_block (cs := #[.string s, .int .i64 t, .bool g]) (t := 27) (fr := (0, 0)) HNEW.out⟩) (by simp [Value.oneCell']) (by unfold maxLen; omega) (by omega) hlx ?_; intro v5 w5 hown hgr _; have HB5 := Lib.hid (below_app HBL.out (Nat.le_refl _) HROL.out hgr); obtain ⟨A5, c5, rfl, ho5⟩ := k_snoc HLM.out hown; have HO5 := Lib.hid ho5; clear hown hgr ho5)
        go_roundw
        case rel => exact ⟨k + 1, m + 1, A5, c5, L ++ [(s, t, g)], by omega, by go_num, rfl, HL1, HM1, by omega, HO5, HB5⟩
        case measure => simp [intOf]; omega
    · have hkn : k = n := by omega
      subst hkn
      have HF := Lib.hid (show KRPost (ls.filter (partB tx true)) w (.returned (.slice A1 m ca)) wr by
        have e := HLK.out
        rw [List.take_of_length_le (by omega)] at e
        rw [← e]
        exact ⟨A1, ca, by rw [HLM.out], HO.out, HB.out⟩)
      go_wp2
      go_ret
      exact HF.out

set_option maxRecDepth 100000 in
set_option maxHeartbeats 4000000 in
theorem whereCf_any (s0 : ByteArray) (t0 : Int) (g0 : Bool) (A : Option Addr) (n c : Nat) (ls : List LK) (B : Nat) (w : World) (hn : ls.length = n) (hcp : n ≤ c) (h : LksB w B A ls) (hB : B ≤ w.heap.size) (hm : KSmall ls)  :
    Calls Try.prog 65 #[.agg #[.slice A n c, .int .i64 60], (.func (.func 66) #[.agg #[.string s0, .int .i64 t0, .bool g0]] #[])] w (KRPost (ls.filter (clashB (s0, t0, g0))) w) := by
  obtain ⟨i0, hi0, hz0, hz1, hz2⟩ := info_parts infoLock
  have HB0 := Lib.hid (below1 w (.cells #[.slice A n c, .int .i64 60] 83))
  have hge := Nat.le_of_eq hn
  have hle := Nat.le_of_eq hn.symm
  have HS := Lib.hid h
  have hm1 := hm.1
  rw [hn] at hm1
  clear hn h hm
  go_enter Try.func65, Try.ntmps65
  go_wp2
  go_loopw [5, 11] (fun v i wr => ∃ (k m : Nat) (A1 : Option Addr) (ca : Nat) (L : List LK), k ≤ n ∧ i = .int .i64 k ∧ v = .slice A1 m ca ∧ Hid (L = (ls.take k).filter (clashB (s0, t0, g0))) ∧ Hid (L.length = m) ∧ m ≤ k ∧ Hid (OwnK wr w.heap.size wr.heap.size A1 ca L) ∧ Hid (Below w.heap.size w wr)) (fun _ i _ => n - (intOf i).toNat)
  case atStart => exact ⟨0, 0, none, 0, [], by omega, rfl, rfl, Lib.hid rfl, Lib.hid rfl, by omega, Lib.hid (own_nil _ _ _), HB0⟩
  case round =>
    clear HB0
    obtain ⟨k, m, A1, ca, L, hk, rfl, rfl, HLK, HLM, hmk, HO, HB⟩ := hrel
    by_cases hlt : k < n
    · obtain ⟨b, off, rfl, hbB, hc⟩ := HS.out.get (by omega)
      obtain ⟨hc0, hc1, hc2⟩ := hc k (by omega)
      have c0 := (HB.out.cell (p := ⟨b, off + k * 3, none⟩) (Nat.lt_of_lt_of_le hbB hB)).trans hc0
      have c1 := (HB.out.cell (p := ⟨b, off + k * 3 + 1, none⟩) (Nat.lt_of_lt_of_le hbB hB)).trans hc1
      have c2 := (HB.out.cell (p := ⟨b, off + k * 3 + 2, none⟩) (Nat.lt_of_lt_of_le hbB hB)).trans hc2
      have hk0 : (0 : Int) ≤ (k : Int) := by omega
      have HYES := Lib.hid (filter_yes (p := clashB (s0, t0, g0)) (ls := ls) (k := k) (by omega))
      have HNO := Lib.hid (filter_no (p := clashB (s0, t0, g0)) (ls := ls) (k := k) (by omega))
      obtain ⟨y, hy⟩ : ∃ y, y = ls[k]'(by omega) := ⟨_, rfl⟩
      rw [← hy] at c0 c1 c2 HYES HNO
      obtain ⟨s, t, g⟩ := y
      simp only at c0 c1 c2
      have HX := Lib.hid (below1 wr (.cells #[.string s, .int .i64 t, .bool g] 27))
      have HBX := Lib.hid (HB.out.trans (HX.out.mono HB.out.size))
      have HOX := Lib.hid (OwnK.grow (hi := 0) HO.out HX.out)
      have hk1 := heap_alloc_new wr (.cells #[.string s, .int .i64 t, .bool g] 27)
      clear hc hc0 hc1 hc2 hy
      obtain ⟨wx, hwx⟩ : ∃ wx, wx = wr.alloc (.cells #[.string s, .int .i64 t, .bool g] 27) := ⟨_, rfl⟩
      rw [← hwx] at HX HBX HOX hk1
      have HC := Lib.hid (fun W (hW : Below w.heap.size w W) => conflicts_any s0 t0 g0 s t g W)
      obtain ⟨r1, hr1⟩ : ∃ r, r = (clashB (s0, t0, g0)) (s, t, g) := ⟨_, rfl⟩
      rw [← hr1] at HYES HNO
      rw [← hr1] at HC
      clear hr1
      cases r1 with
      | false =>
        have HL1 := Lib.hid (show L = (ls.take (k + 1)).filter (clashB (s0, t0, g0)) by rw [HNO.out rfl]; exact HLK.out)
        go_wp2_with fail
        rw [← hwx]
        refine (HC.out _ HBX.out).mono ?_
        rintro e w4 ⟨rfl, hb4⟩
        have x0 := cell_blk (i := 0) ((hb4.block _ (lt_blk hk1)).trans hk1) rfl
        have x1 := cell_blk (i := 1) ((hb4.block _ (lt_blk hk1)).trans hk1) rfl
        have x2 := cell_blk (i := 2) ((hb4.block _ (lt_blk hk1)).trans hk1) rfl
        have HBL := Lib.hid (HBX.out.trans (hb4.mono HBX.out.size))
        have HOL := Lib.hid (OwnK.grow (hi := 0) HOX.out hb4)
        clear hb4 c0 c1 c2
        go_wp2
        go_roundw
        case rel => exact ⟨k + 1, m, A1, ca, L, by omega, by go_num, rfl, HL1, HLM, by omega, HOL, HBL⟩
        case measure => simp [intOf]; omega
      | true =>
        have HL1 := Lib.hid (show L ++ [(s, t, g)] = (ls.take (k + 1)).filter (clashB (s0, t0, g0)) by rw [HYES.out rfl, HLK.out])
        have HM1 := Lib.hid (show (L ++ [(s, t, g)]).length = m + 1 by rw [List.length_append, HLM.out]; rfl)
        go_wp2_with fail
        rw [← hwx]
        refine (HC.out _ HBX.out).mono ?_
        rintro e w4 ⟨rfl, hb4⟩
        have x0 := cell_blk (i := 0) ((hb4.block _ (lt_blk hk1)).trans hk1) rfl
        have x1 := cell_blk (i := 1) ((hb4.block _ (lt_blk hk1)).trans hk1) rfl
        have x2 := cell_blk (i := 2) ((hb4.block _ (lt_blk hk1)).trans hk1) rfl
        have HBL := Lib.hid (HBX.out.trans (hb4.mono HBX.out.size))
        have HOL := Lib.hid (OwnK.grow (hi := 0) HOX.out hb4)
        clear hb4 c0 c1 c2
        have HROL := Lib.hid (k_row HOL.out HLM.out)
        have HBY := Lib.hid (below1 w4 (.cells #[.string s, .int .i64 t, .bool g] 27))
        have HOY := Lib.hid (OwnK.grow (hi := 0) HOL.out HBY.out)
        have HROW := Lib.hid (k_row HOY.out HLM.out)
        have HNEW := Lib.hid (heap_alloc_new w4 (.cells #[.string s, .int .i64 t, .bool g] 27))
        have hlx : w.heap.size ≤ (w4.alloc (.cells #[.string s, .int .i64 t, .bool g] 27)).heap.size := (HBL.out.trans (HBY.out.mono HBL.out.size)).size
        go_wp2_with (at_builtin; refine wpList_app rfl (.tmp 18) (.tmp 20) 24 rfl w.heap.size 27 i0 _ 3 32 Try.underlying24 hi0 hz0 hz1 hz2 rfl (by decide) (.slice A1 m ca) m ((L.map lkCs).flatten) rfl HROW.out (some ⟨w4.heap.size, 0, none⟩) 1 1 [.string s, .int .i64 t, .bool g] rfl rfl (fun _ => ⟨_, rfl, World.news_of_block (cs := #[.string s, .int .i64 t, .bool g]) (t := 27) (fr := (0, 0)) HNEW.out⟩) (by simp [Value.oneCell']) (by unfold maxLen; omega) (by omega) hlx ?_; intro v5 w5 hown hgr _; have HB5 := Lib.hid (below_app HBL.out (Nat.le_refl _) HROL.out hgr); obtain ⟨A5, c5, rfl, ho5⟩ := k_snoc HLM.out hown; have HO5 := Lib.hid ho5; clear hown hgr ho5)
        go_roundw
        case rel => exact ⟨k + 1, m + 1, A5, c5, L ++ [(s, t, g)], by omega, by go_num, rfl, HL1, HM1, by omega, HO5, HB5⟩
        case measure => simp [intOf]; omega
    · have hkn : k = n := by omega
      subst hkn
      have HF := Lib.hid (show KRPost (ls.filter (clashB (s0, t0, g0))) w (.returned (.slice A1 m ca)) wr by
        have e := HLK.out
        rw [List.take_of_length_le (by omega)] at e
        rw [← e]
        exact ⟨A1, ca, by rw [HLM.out], HO.out, HB.out⟩)
      go_wp2
      go_ret
      exact HF.out

set_option maxRecDepth 100000 in
set_option maxHeartbeats 4000000 in
theorem specFreeLocks_any (tx : Int) (A : Option Addr) (n c : Nat) (ls : List LK) (B : Nat) (w : World) (hn : ls.length = n) (hcp : n ≤ c) (h : LksB w B A ls) (hB : B ≤ w.heap.size) (hm : KSmall ls) :
    Calls Try.prog 26 #[.slice A n c, .int .i64 tx] w (KAPost (freeA ls tx) w) := by
  have HG := Lib.hid (fun W (hW : Below w.heap.size w W) => l12Good_any A n c ls B W hn hcp (h.below (hW.mono hB)) (Nat.le_trans hB hW.size) hm)
  have HT := Lib.hid (fun W => l1In_any tx 1 60 W)
  have HB0 := Lib.hid (Below.refl w.heap.size w)
  have HP := Lib.hid (fun W (hW : Below w.heap.size w W) => l12Part_any tx false A n c ls B W hn hcp (h.below (hW.mono hB)) (Nat.le_trans hB hW.size) hm)
  unfold freeA
  obtain ⟨r1, hr1⟩ : ∃ r, r = goodB ls := ⟨_, rfl⟩
  obtain ⟨r2, hr2⟩ : ∃ r, r = inB tx 1 60 := ⟨_, rfl⟩
  rw [← hr1] at HG
  rw [← hr2] at HT
  rw [← hr1, ← hr2]
  clear hr1 hr2 h hn hm
  cases r1 with
  | false =>
    go_enter Try.func26, Try.ntmps26
    go_wp2_with fail
    refine (HG.out _ HB0.out).mono ?_
    rintro e w1 ⟨rfl, hb1⟩
    have HB1 := Lib.hid (HB0.out.trans (hb1.mono HB0.out.size))

    clear hb1
    go_wp2
    exact bodyPost_ret (v := .tuple #[.slice none 0 0, .bool false]) (by simp [results, Try.results26, go_sem]) rfl ⟨none, 0, rfl, own_nil _ _ _, HB1.out⟩
  | true =>
    cases r2 with
    | false =>
      go_enter Try.func26, Try.ntmps26
      go_wp2_with fail
      refine (HG.out _ HB0.out).mono ?_
      rintro e w1 ⟨rfl, hb1⟩
      have HB1 := Lib.hid (HB0.out.trans (hb1.mono HB0.out.size))

      clear hb1
      go_wp2_with fail
      refine (HT.out _).mono ?_
      rintro e w2 ⟨rfl, rfl⟩
      go_wp2
      exact bodyPost_ret (v := .tuple #[.slice none 0 0, .bool false]) (by simp [results, Try.results26, go_sem]) rfl ⟨none, 0, rfl, own_nil _ _ _, HB1.out⟩
    | true =>
      go_enter Try.func26, Try.ntmps26
      go_wp2_with fail
      refine (HG.out _ HB0.out).mono ?_
      rintro e w1 ⟨rfl, hb1⟩
      have HB1 := Lib.hid (HB0.out.trans (hb1.mono HB0.out.size))

      clear hb1
      go_wp2_with fail
      refine (HT.out _).mono ?_
      rintro e w2 ⟨rfl, rfl⟩
      go_wp2_with fail
      refine (HP.out _ HB1.out).mono ?_
      rintro e w3 ⟨A3, c3, rfl, ho3, hb3⟩
      have HF := Lib.hid (show KAPost (ls.filter (partB tx false), true) w (.returned (.tuple #[.slice A3 (ls.filter (partB tx false)).length c3, .bool true])) w3 from ⟨A3, c3, rfl, ho3.wider HB1.out.size (Nat.le_refl _), HB1.out.trans (hb3.mono HB1.out.size)⟩)
      clear ho3 hb3
      go_wp2
      exact bodyPost_ret (v := .tuple #[.slice A3 (ls.filter (partB tx false)).length c3, .bool true]) (by simp [results, Try.results26, go_sem]) rfl HF.out

set_option maxRecDepth 100000 in
set_option maxHeartbeats 4000000 in
theorem implFreeLocks_any (tx : Int) (A : Option Addr) (n c : Nat) (ls : List LK) (B : Nat) (w : World) (hn : ls.length = n) (hcp : n ≤ c) (h : LksB w B A ls) (hB : B ≤ w.heap.size) (hm : KSmall ls) :
    Calls Try.prog 21 #[.slice A n c, .int .i64 tx] w (KAPost (freeA ls tx) w) := by
  have HG := Lib.hid (fun W (hW : Below w.heap.size w W) => implGoodLocks_any A n c ls B W hn hcp (h.below (hW.mono hB)) (Nat.le_trans hB hW.size) hm)
  have HT := Lib.hid (fun W => isTxnL_any tx W)
  have HB0 := Lib.hid (below1 w (.cells #[.int .i64 tx] 3))
  have hk0 := heap_alloc_new w (.cells #[.int .i64 tx] 3)
  have HL := Lib.hid (fun W => lockTable_any A n c W)
  have HP := Lib.hid (fun W (hW : Below w.heap.size w W) (hp : W.cell? ⟨w.heap.size, 0, none⟩ = some (.int .i64 tx)) (hpb : w.heap.size < W.heap.size) => whereFree_any tx w.heap.size A n c ls B W hn hcp (h.below (hW.mono hB)) (Nat.le_trans hB hW.size) hm hp hpb)
  unfold freeA
  obtain ⟨r1, hr1⟩ : ∃ r, r = goodB ls := ⟨_, rfl⟩
  obtain ⟨r2, hr2⟩ : ∃ r, r = inB tx 1 60 := ⟨_, rfl⟩
  rw [← hr1] at HG
  rw [← hr2] at HT
  rw [← hr1, ← hr2]
  clear hr1 hr2 h hn hm
  cases r1 with
  | false =>
    go_enter Try.func21, Try.ntmps21
    go_wp2_with fail
    refine (HG.out _ HB0.out).mono ?_
    rintro e w1 ⟨rfl, hb1⟩
    have HB1 := Lib.hid (HB0.out.trans (hb1.mono HB0.out.size))
    have hk1 := (hb1.block w.heap.size (lt_blk hk0)).trans hk0
    have kc := cell_blk (i := 0) hk1 rfl
    have kl := lt_blk hk1
    clear hb1
    go_wp2
    exact bodyPost_ret (v := .tuple #[.slice none 0 0, .bool false]) (by simp [results, Try.results21, go_sem]) rfl ⟨none, 0, rfl, own_nil _ _ _, HB1.out⟩
  | true =>
    cases r2 with
    | false =>
      go_enter Try.func21, Try.ntmps21
      go_wp2_with fail
      refine (HG.out _ HB0.out).mono ?_
      rintro e w1 ⟨rfl, hb1⟩
      have HB1 := Lib.hid (HB0.out.trans (hb1.mono HB0.out.size))
      have hk1 := (hb1.block w.heap.size (lt_blk hk0)).trans hk0
      have kc := cell_blk (i := 0) hk1 rfl
      have kl := lt_blk hk1
      clear hb1
      go_wp2_with fail
      refine (HT.out _).mono ?_
      rintro e w2 ⟨rfl, rfl⟩
      go_wp2
      exact bodyPost_ret (v := .tuple #[.slice none 0 0, .bool false]) (by simp [results, Try.results21, go_sem]) rfl ⟨none, 0, rfl, own_nil _ _ _, HB1.out⟩
    | true =>
      go_enter Try.func21, Try.ntmps21
      go_wp2_with fail
      refine (HG.out _ HB0.out).mono ?_
      rintro e w1 ⟨rfl, hb1⟩
      have HB1 := Lib.hid (HB0.out.trans (hb1.mono HB0.out.size))
      have hk1 := (hb1.block w.heap.size (lt_blk hk0)).trans hk0
      have kc := cell_blk (i := 0) hk1 rfl
      have kl := lt_blk hk1
      clear hb1
      go_wp2_with fail
      refine (HT.out _).mono ?_
      rintro e w2 ⟨rfl, rfl⟩
      go_wp2_with fail
      refine (HL.out _).mono ?_
      rintro e w3 ⟨rfl, hb3⟩
      have HB3 := Lib.hid (HB1.out.trans (hb3.mono HB1.out.size))
      have hk3 := (hb3.block w.heap.size kl).trans hk1
      have kc3 := cell_blk (i := 0) hk3 rfl
      have kl3 := lt_blk hk3
      clear hb3
      go_wp2_with fail
      refine (HP.out _ HB3.out kc3 kl3).mono ?_
      rintro e w4 ⟨A3, c3, rfl, ho3, hb4⟩
      have HF := Lib.hid (show KAPost (ls.filter (partB tx false), true) w (.returned (.tuple #[.slice A3 (ls.filter (partB tx false)).length c3, .bool true])) w4 from ⟨A3, c3, rfl, ho3.wider HB3.out.size (Nat.le_refl _), HB3.out.trans (hb4.mono HB3.out.size)⟩)
      clear ho3 hb4
      go_wp2
      exact bodyPost_ret (v := .tuple #[.slice A3 (ls.filter (partB tx false)).length c3, .bool true]) (by simp [results, Try.results21, go_sem]) rfl HF.out

set_option maxRecDepth 100000 in
set_option maxHeartbeats 4000000 in
theorem specLocksOf_any (tx : Int) (A : Option Addr) (n c : Nat) (ls : List LK) (B : Nat) (w : World) (hn : ls.length = n) (hcp : n ≤ c) (h : LksB w B A ls) (hB : B ≤ w.heap.size) (hm : KSmall ls) :
    Calls Try.prog 28 #[.slice A n c, .int .i64 tx] w (KAPost (ofA ls tx) w) := by
  have HG := Lib.hid (fun W (hW : Below w.heap.size w W) => l12Good_any A n c ls B W hn hcp (h.below (hW.mono hB)) (Nat.le_trans hB hW.size) hm)
  have HT := Lib.hid (fun W => l1In_any tx 1 60 W)
  have HB0 := Lib.hid (Below.refl w.heap.size w)
  have HP := Lib.hid (fun W (hW : Below w.heap.size w W) => l12Part_any tx true A n c ls B W hn hcp (h.below (hW.mono hB)) (Nat.le_trans hB hW.size) hm)
  unfold ofA
  obtain ⟨r1, hr1⟩ : ∃ r, r = goodB ls := ⟨_, rfl⟩
  obtain ⟨r2, hr2⟩ : ∃ r, r = inB tx 1 60 := ⟨_, rfl⟩
  rw [← hr1] at HG
  rw [← hr2] at HT
  rw [← hr1, ← hr2]
  clear hr1 hr2 h hn hm
  cases r1 with
  | false =>
    go_enter Try.func28, Try.ntmps28
    go_wp2_with fail
    refine (HG.out _ HB0.out).mono ?_
    rintro e w1 ⟨rfl, hb1⟩
    have HB1 := Lib.hid (HB0.out.trans (hb1.mono HB0.out.size))

    clear hb1
    go_wp2
    exact bodyPost_ret (v := .tuple #[.slice none 0 0, .bool false]) (by simp [results, Try.results28, go_sem]) rfl ⟨none, 0, rfl, own_nil _ _ _, HB1.out⟩
  | true =>
    cases r2 with
    | false =>
      go_enter Try.func28, Try.ntmps28
      go_wp2_with fail
      refine (HG.out _ HB0.out).mono ?_
      rintro e w1 ⟨rfl, hb1⟩
      have HB1 := Lib.hid (HB0.out.trans (hb1.mono HB0.out.size))

      clear hb1
      go_wp2_with fail
      refine (HT.out _).mono ?_
      rintro e w2 ⟨rfl, rfl⟩
      go_wp2
      exact bodyPost_ret (v := .tuple #[.slice none 0 0, .bool false]) (by simp [results, Try.results28, go_sem]) rfl ⟨none, 0, rfl, own_nil _ _ _, HB1.out⟩
    | true =>
      go_enter Try.func28, Try.ntmps28
      go_wp2_with fail
      refine (HG.out _ HB0.out).mono ?_
      rintro e w1 ⟨rfl, hb1⟩
      have HB1 := Lib.hid (HB0.out.trans (hb1.mono HB0.out.size))

      clear hb1
      go_wp2_with fail
      refine (HT.out _).mono ?_
      rintro e w2 ⟨rfl, rfl⟩
      go_wp2_with fail
      refine (HP.out _ HB1.out).mono ?_
      rintro e w3 ⟨A3, c3, rfl, ho3, hb3⟩
      have HF := Lib.hid (show KAPost (ls.filter (partB tx true), true) w (.returned (.tuple #[.slice A3 (ls.filter (partB tx true)).length c3, .bool true])) w3 from ⟨A3, c3, rfl, ho3.wider HB1.out.size (Nat.le_refl _), HB1.out.trans (hb3.mono HB1.out.size)⟩)
      clear ho3 hb3
      go_wp2
      exact bodyPost_ret (v := .tuple #[.slice A3 (ls.filter (partB tx true)).length c3, .bool true]) (by simp [results, Try.results28, go_sem]) rfl HF.out

set_option maxRecDepth 100000 in
set_option maxHeartbeats 4000000 in
theorem implLocksOf_any (tx : Int) (A : Option Addr) (n c : Nat) (ls : List LK) (B : Nat) (w : World) (hn : ls.length = n) (hcp : n ≤ c) (h : LksB w B A ls) (hB : B ≤ w.heap.size) (hm : KSmall ls) :
    Calls Try.prog 27 #[.slice A n c, .int .i64 tx] w (KAPost (ofA ls tx) w) := by
  have HG := Lib.hid (fun W (hW : Below w.heap.size w W) => implGoodLocks_any A n c ls B W hn hcp (h.below (hW.mono hB)) (Nat.le_trans hB hW.size) hm)
  have HT := Lib.hid (fun W => isTxnL_any tx W)
  have HB0 := Lib.hid (below1 w (.cells #[.int .i64 tx] 3))
  have hk0 := heap_alloc_new w (.cells #[.int .i64 tx] 3)
  have HL := Lib.hid (fun W => lockTable_any A n c W)
  have HP := Lib.hid (fun W (hW : Below w.heap.size w W) (hp : W.cell? ⟨w.heap.size, 0, none⟩ = some (.int .i64 tx)) (hpb : w.heap.size < W.heap.size) => whereOf_any tx w.heap.size A n c ls B W hn hcp (h.below (hW.mono hB)) (Nat.le_trans hB hW.size) hm hp hpb)
  unfold ofA
  obtain ⟨r1, hr1⟩ : ∃ r, r = goodB ls := ⟨_, rfl⟩
  obtain ⟨r2, hr2⟩ : ∃ r, r = inB tx 1 60 := ⟨_, rfl⟩
  rw [← hr1] at HG
  rw [← hr2] at HT
  rw [← hr1, ← hr2]
  clear hr1 hr2 h hn hm
  cases r1 with
  | false =>
    go_enter Try.func27, Try.ntmps27
    go_wp2_with fail
    refine (HG.out _ HB0.out).mono ?_
    rintro e w1 ⟨rfl, hb1⟩
    have HB1 := Lib.hid (HB0.out.trans (hb1.mono HB0.out.size))
    have hk1 := (hb1.block w.heap.size (lt_blk hk0)).trans hk0
    have kc := cell_blk (i := 0) hk1 rfl
    have kl := lt_blk hk1
    clear hb1
    go_wp2
    exact bodyPost_ret (v := .tuple #[.slice none 0 0, .bool false]) (by simp [results, Try.results27, go_sem]) rfl ⟨none, 0, rfl, own_nil _ _ _, HB1.out⟩
  | true =>
    cases r2 with
    | false =>
      go_enter Try.func27, Try.ntmps27
      go_wp2_with fail
      refine (HG.out _ HB0.out).mono ?_
      rintro e w1 ⟨rfl, hb1⟩
      have HB1 := Lib.hid (HB0.out.trans (hb1.mono HB0.out.size))
      have hk1 := (hb1.block w.heap.size (lt_blk hk0)).trans hk0
      have kc := cell_blk (i := 0) hk1 rfl
      have kl := lt_blk hk1
      clear hb1
      go_wp2_with fail
      refine (HT.out _).mono ?_
      rintro e w2 ⟨rfl, rfl⟩
      go_wp2
      exact bodyPost_ret (v := .tuple #[.slice none 0 0, .bool false]) (by simp [results, Try.results27, go_sem]) rfl ⟨none, 0, rfl, own_nil _ _ _, HB1.out⟩
    | true =>
      go_enter Try.func27, Try.ntmps27
      go_wp2_with fail
      refine (HG.out _ HB0.out).mono ?_
      rintro e w1 ⟨rfl, hb1⟩
      have HB1 := Lib.hid (HB0.out.trans (hb1.mono HB0.out.size))
      have hk1 := (hb1.block w.heap.size (lt_blk hk0)).trans hk0
      have kc := cell_blk (i := 0) hk1 rfl
      have kl := lt_blk hk1
      clear hb1
      go_wp2_with fail
      refine (HT.out _).mono ?_
      rintro e w2 ⟨rfl, rfl⟩
      go_wp2_with fail
      refine (HL.out _).mono ?_
      rintro e w3 ⟨rfl, hb3⟩
      have HB3 := Lib.hid (HB1.out.trans (hb3.mono HB1.out.size))
      have hk3 := (hb3.block w.heap.size kl).trans hk1
      have kc3 := cell_blk (i := 0) hk3 rfl
      have kl3 := lt_blk hk3
      clear hb3
      go_wp2_with fail
      refine (HP.out _ HB3.out kc3 kl3).mono ?_
      rintro e w4 ⟨A3, c3, rfl, ho3, hb4⟩
      have HF := Lib.hid (show KAPost (ls.filter (partB tx true), true) w (.returned (.tuple #[.slice A3 (ls.filter (partB tx true)).length c3, .bool true])) w4 from ⟨A3, c3, rfl, ho3.wider HB3.out.size (Nat.le_refl _), HB3.out.trans (hb4.mono HB3.out.size)⟩)
      clear ho3 hb4
      go_wp2
      exact bodyPost_ret (v := .tuple #[.slice A3 (ls.filter (partB tx true)).length c3, .bool true]) (by simp [results, Try.results27, go_sem]) rfl HF.out
end Go.Proofs.Ytlfdefjkfacngaa.Lk
