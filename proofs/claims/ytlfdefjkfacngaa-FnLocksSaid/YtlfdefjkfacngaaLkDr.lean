/-
  The model's drawing of locks: lock, locks, anyLocks; DrawAskLock, DrawTakeLock, DrawFreeLocks.
-/
import Derived.Test.YtlfdefjkfacngaaOf
import Derived.Test.YtlfdefjkfacngaaLkF7
namespace Go.Proofs.Ytlfdefjkfacngaa.Lk
open Go.RowKit CM Nt
set_option linter.unusedVariables false
set_option linter.unusedSimpArgs false

theorem OwnK.cur {w w' : World} {lo hi cap g : Nat} {A : Option Addr} {ls : List LK} (h : OwnK w lo hi A cap ls) (hG : w.grownBy w' (some g)) (hg : g < lo) : OwnK w' lo hi A cap ls := by
  rcases h with h | ⟨b, cur, hA, h1, h2, h3, h4⟩
  · exact .inl h
  · exact .inr ⟨b, cur, hA, h1, h2, (hG.block b (lt_blk h3) (by intro e; injection e with e; omega)).trans h3, h4⟩
theorem own_curI {w w' : World} {lo hi cap g : Nat} {A : Option Addr} {ls : List Int} (h : OwnI w lo hi A cap ls) (hG : w.grownBy w' (some g)) (hg : g < lo) : OwnI w' lo hi A cap ls := by
  rcases h with h | ⟨b, cur, hA, h1, h2, h3, h4⟩
  · exact .inl h
  · exact .inr ⟨b, cur, hA, h1, h2, (hG.block b (lt_blk h3) (by intro e; injection e with e; omega)).trans h3, h4⟩
/-- Locks whose keys are of one byte at most. -/
def KTiny (L : List LK) : Prop := ∀ x ∈ L, x.1.size ≤ 1
theorem ktiny_take {L : List LK} {x : LK} (h : KTiny L) (hx : x.1.size ≤ 1) : KTiny (takeL L x) := by
  induction L with
  | nil => intro y hy; simp [takeL] at hy; subst hy; exact hx
  | cons z L ih =>
    unfold takeL
    have h0 := h z (by simp)
    have h1 : KTiny L := fun y hy => h y (List.mem_cons_of_mem _ hy)
    split
    · intro y hy; rcases List.mem_cons.1 hy with rfl | hy
      · exact h0
      · exact h1 y hy
    · intro y hy; rcases List.mem_cons.1 hy with rfl | hy
      · exact h0
      · exact ih h1 y hy
theorem take_len (L : List LK) (x : LK) : (takeL L x).length ≤ L.length + 1 := by
  induction L with
  | nil => simp [takeL]
  | cons y l ih => unfold takeL; split <;> simp <;> omega
theorem ktiny_small {L : List LK} (h : KTiny L) (hl : L.length ≤ 1000) : KSmall L := ⟨by omega, fun x hx => by have := h x hx; omega⟩
/-- Some lock, the cursor gone on by at most d. -/
def LockPost (w : World) (g : Nat) (l : List UInt8) (A : Option Addr) (c q d : Nat) (e : Ending) (w' : World) : Prop :=
  ∃ (s : ByteArray) (t : Int) (b : Bool) (q' : Nat), e = .returned (.agg #[.string s, .int .i64 t, .bool b]) ∧ s.size ≤ 1 ∧ q' ≤ q + d ∧ Cur w' g l A c q' ∧ w.grownBy w' (some g)
def keysL : List ByteArray := [⟨#[97]⟩, ⟨#[98]⟩, ⟨#[109]⟩]
theorem keysL_all : ∀ k (h : k < keysL.length), keysL[k].size ≤ 1 := by
  intro k hk
  have h1 : ∀ x ∈ keysL, x.size ≤ 1 := by decide
  exact h1 _ (List.getElem_mem hk)

set_option maxRecDepth 100000 in
set_option maxHeartbeats 2000000 in
theorem lock_any (g : Nat) (l : List UInt8) (A : Option Addr) (c q : Nat) (w : World) (h : Cur w g l A c q) (hl : l.length ≤ 1048576) (hq : q ≤ 800000000) :
    Calls Try.prog 52 #[.pointer (some ⟨g, 0, none⟩)] w (LockPost w g l A c q 6) := by
  have hlt := h.lt
  have hC0 := (h.allocated (.cells #[.string ⟨#[]⟩, .int .i64 0, .bool false] 27)).allocated (.cells (keysL.map Value.string).toArray 9)
  have HO := Lib.hid (of_any g l A c q (w.heap.size + 1) 3 3 1 keysL _ hC0 hl (by omega) rfl (by omega) (by omega) (by omega) (by have h9 := new_strs (w.alloc (.cells #[.string ⟨#[]⟩, .int .i64 0, .bool false] 27)) keysL 9; rw [World.size_alloc] at h9; exact h9) keysL_all)
  have HR0 := Lib.hid (((below1 (w.alloc (.cells #[.string ⟨#[]⟩, .int .i64 0, .bool false] 27)) (.cells (keysL.map Value.string).toArray 9)).block w.heap.size (by simp)).trans (heap_alloc_new w (.cells #[.string ⟨#[]⟩, .int .i64 0, .bool false] 27)))
  have HG0 := Lib.hid (grown_trans (World.grownBy_alloc w (.cells #[.string ⟨#[]⟩, .int .i64 0, .bool false] 27) (some g)) (World.grownBy_alloc (w.alloc (.cells #[.string ⟨#[]⟩, .int .i64 0, .bool false] 27)) (.cells (keysL.map Value.string).toArray 9) (some g)))
  clear h hC0
  go_enter Try.func52, Try.ntmps52
  go_wp2_with fail
  refine HO.out.mono ?_
  rintro e w1 ⟨s, q1, rfl, hs1, hq1, hC1, hG1⟩
  have HR1 := Lib.hid (block_kept hG1 HR0.out (by omega))
  have HG1 := Lib.hid (grown_trans HG0.out hG1)
  clear hG1
  go_wp2_with fail
  refine (pick_any g l A c q1 5 _ hC1 hl (by omega) (by omega) (by omega)).mono ?_
  rintro e w2 ⟨x, q2, hx0, hx1, rfl, hq2, hC2, hG2⟩
  have HR2 := Lib.hid (block_kept hG2 HR1.out (by omega))
  have HG2 := Lib.hid (grown_trans HG1.out hG2)
  clear hG2 hC1
  go_wp2_with fail
  refine (one_any g l A c q2 2 _ hC2 hl (by omega) (by omega) (by omega)).mono ?_
  rintro e w3 ⟨b, q3, rfl, hq3, hC3, hG3⟩
  have hr3 := block_kept hG3 HR2.out (by omega)
  have HG3 := Lib.hid (grown_trans HG2.out hG3)
  clear hG3 hC2
  have cr0 := cell_blk (i := 0) hr3 rfl
  have cr1 := cell_blk (i := 1) hr3 rfl
  have cr2 := cell_blk (i := 2) hr3 rfl
  have fr0 := free_blk hr3 0
  have fr1 := free_blk hr3 1
  have fr2 := free_blk hr3 2
  have HC3 := Lib.hid hC3
  clear hC3 hr3
  go_wp2
  exact bodyPost_ret (v := .agg #[.string s, .int .i64 (1 + x), .bool b]) (by simp [results, Try.results52, go_sem, *]) rfl ⟨s, 1 + x, b, q3, rfl, hs1, by omega, ((HC3.out.setNew (p := ⟨w.heap.size, 0, none⟩) (by simp; omega) _).setNew (p := ⟨w.heap.size, 1, none⟩) (by simp; omega) _).setNew (p := ⟨w.heap.size, 2, none⟩) (by simp; omega) _, grown_setNew (p := ⟨w.heap.size, 2, none⟩) (grown_setNew (p := ⟨w.heap.size, 1, none⟩) (grown_setNew (p := ⟨w.heap.size, 0, none⟩) HG3.out (by simp) _) (by simp) _) (by simp) _⟩

/-- Some locks in a row of the call's own. -/
def LocksPost (w : World) (g : Nat) (l : List UInt8) (A : Option Addr) (c q d mx : Nat) (e : Ending) (w' : World) : Prop :=
  ∃ (A1 : Option Addr) (ca : Nat) (L : List LK) (q' : Nat), e = .returned (.slice A1 L.length ca) ∧ OwnK w' w.heap.size w'.heap.size A1 ca L ∧ L.length ≤ mx ∧ KTiny L ∧ q' ≤ q + d ∧ Cur w' g l A c q' ∧ w.grownBy w' (some g)

set_option maxRecDepth 100000 in
set_option maxHeartbeats 4000000 in
theorem locks_any (g : Nat) (l : List UInt8) (A : Option Addr) (c q : Nat) (w : World) (h : Cur w g l A c q) (hl : l.length ≤ 1048576) (hq : q ≤ 700000000) :
    Calls Try.prog 92 #[.pointer (some ⟨g, 0, none⟩)] w (LocksPost w g l A c q 100 7) := by
  have hlt := h.lt
  have H := Lib.hid h
  clear h
  go_enter Try.func92, Try.ntmps92
  go_wp2_with fail
  refine (pick_any g l A c q 8 _ H.out hl (by omega) (by omega) (by omega)).mono ?_
  rintro e w1 ⟨x, q1, hx0, hx1, rfl, hq1, hC1, hG1⟩
  obtain ⟨n, rfl⟩ := nat_of hx0
  have HC1 := Lib.hid hC1
  have HG1 := Lib.hid hG1
  clear hC1 hG1 H
  go_wp2
  go_loopw [3, 4] (fun v i wr => ∃ (k m q2 : Nat) (A1 : Option Addr) (ca : Nat) (L : List LK), k ≤ 7 ∧ m + k ≤ 7 ∧ i = .int .i64 k ∧ v = .slice A1 m ca ∧ Hid (L.length = m) ∧ Hid (KTiny L) ∧ Hid (OwnK wr w.heap.size wr.heap.size A1 ca L) ∧ q2 + 10 * k ≤ q + 80 ∧ Hid (Cur wr g l A c q2) ∧ Hid (w.grownBy wr (some g))) (fun _ i _ => (intOf i).toNat)
  case atStart => exact ⟨n, 0, q1, none, 0, [], by omega, by omega, rfl, rfl, Lib.hid rfl, Lib.hid (by intro x hx; cases hx), Lib.hid (own_nil _ _ _), by omega, HC1, HG1⟩
  case round =>
    clear HC1 HG1
    obtain ⟨k, m, q2, A1, ca, L, hk, hmk, rfl, rfl, HLM, HTY, HO, hq2, HC, HG⟩ := hrel
    have hws := HG.out.size
    by_cases hk0 : 0 < k
    · have hki : (0 : Int) < (k : Int) := by omega
      go_wp2_with fail
      refine (lock_any g l A c q2 _ HC.out hl (by omega)).mono ?_
      rintro e w2 ⟨s, t, b, q3, rfl, hs1, hq3, hC2, hG2⟩
      have HG2 := Lib.hid (grown_trans HG.out hG2)
      have HO2 := Lib.hid (OwnK.wider (HO.out.cur hG2 hlt) (Nat.le_refl _) hG2.size)
      have HBX := Lib.hid (below1 w2 (.cells #[.string s, .int .i64 t, .bool b] 27))
      have HC2 := Lib.hid (hC2.allocated (.cells #[.string s, .int .i64 t, .bool b] 27))
      have HGX := Lib.hid (grown_alloc HG2.out (.cells #[.string s, .int .i64 t, .bool b] 27))
      have HOX := Lib.hid (OwnK.grow (hi := 0) HO2.out HBX.out)
      have hkx := heap_alloc_new w2 (.cells #[.string s, .int .i64 t, .bool b] 27)
      have hz2 := HG2.out.size
      clear hC2 hG2
      obtain ⟨wx, hwx⟩ : ∃ wx, wx = w2.alloc (.cells #[.string s, .int .i64 t, .bool b] 27) := ⟨_, rfl⟩
      have HWW := Lib.hid (l12Waits_any s t b A1 m ca L (w2.alloc (.cells #[.string s, .int .i64 t, .bool b] 27)).heap.size (w2.alloc (.cells #[.string s, .int .i64 t, .bool b] 27)) HLM.out (by rw [← HLM.out]; exact HOX.out.cap) HOX.out.lks (Nat.le_refl _) (ktiny_small HTY.out (by rw [HLM.out]; omega)))
      go_wp2_with fail
      refine HWW.out.mono ?_
      rintro e w3 ⟨A3, c3, rfl, ho3, hb3⟩
      clear ho3 HWW
      obtain ⟨q9, hq9⟩ : ∃ q9, q9 = (foldI (txnsL L (s, t, b))).length := ⟨_, rfl⟩
      have hq9b : q9 ≤ 7 := by rw [hq9]; have h1 := fold_len (txnsL L (s, t, b)); have h2 := txns_len L (s, t, b); have h3 := HLM.out; omega
      rw [← hq9]
      have hk3 := (hb3.block w2.heap.size (lt_blk hkx)).trans hkx
      have z0 := cell_blk (i := 0) hk3 rfl
      have z1 := cell_blk (i := 1) hk3 rfl
      have z2 := cell_blk (i := 2) hk3 rfl
      have zl := lt_blk hk3
      have HC3 := Lib.hid (HC2.out.below hb3)
      have HG3 := Lib.hid (grown_below HGX.out hb3)
      have HO3 := Lib.hid (OwnK.grow (hi := 0) HOX.out hb3)
      clear hb3 hq9 hwx
      by_cases h0 : q9 = 0
      · subst h0
        have HTT := Lib.hid (l12Take_any s t b A1 m ca L w3.heap.size w3 HLM.out (by rw [← HLM.out]; exact HO3.out.cap) HO3.out.lks (Nat.le_refl _) (ktiny_small HTY.out (by rw [HLM.out]; omega)))
        go_wp2_with fail
        refine HTT.out.mono ?_
        rintro e w4 ⟨A4, c4, rfl, ho4, hb4⟩
        have HC4 := Lib.hid (HC3.out.below hb4)
        have HG4 := Lib.hid (grown_below HG3.out hb4)
        have HO4 := Lib.hid (OwnK.wider (lo' := w.heap.size) ho4 (by have := HG3.out.size; omega) (Nat.le_refl _))
        have HTY4 := Lib.hid (ktiny_take (x := (s, t, b)) HTY.out hs1)
        have hml : (takeL L (s, t, b)).length ≤ m + 1 := by rw [← HLM.out]; exact take_len _ _
        obtain ⟨m4, hm4⟩ : ∃ m4, m4 = (takeL L (s, t, b)).length := ⟨_, rfl⟩
        rw [← hm4] at hml ⊢
        have HM4 := Lib.hid hm4.symm
        clear ho4 hb4 HTT hm4 z0 z1 z2
        go_wp2
        go_roundw
        case rel => exact ⟨k - 1, m4, q3, A4, c4, takeL L (s, t, b), by omega, by omega, by go_num, rfl, HM4, HTY4, HO4, by omega, HC4, HG4⟩
        case measure => simp [intOf]; omega
      · have h0i : ((q9 : Int) == 0) = false := by simp; omega
        have h0d : decide ((q9 : Int) = 0) = false := by simp; omega
        clear z0 z1 z2
        go_wp2
        go_roundw
        case rel => exact ⟨k - 1, m, q3, A1, ca, L, by omega, by omega, by go_num, rfl, HLM, HTY, HO3, by omega, HC3, HG3⟩
        case measure => simp [intOf]; omega
    · have hk00 : k = 0 := by omega
      subst hk00
      go_wp2
      go_ret
      exact ⟨A1, ca, L, q2, by rw [HLM.out]; rfl, HO.out, by rw [HLM.out]; omega, HTY.out, by omega, HC.out, HG.out⟩

theorem OwnK.putT {w : World} {lo hi g cap : Nat} {ls : List LK} (h : OwnK w lo hi (some ⟨g, 0, none⟩) cap ls) (k : Nat) (hk : k < ls.length) (d : Int) :
    OwnK (w.setCell ⟨g, k * 3 + 1, none⟩ (.int .i64 d)) lo hi (some ⟨g, 0, none⟩) cap (ls.set k (ls[k].1, d, ls[k].2.2)) := by
  have hk' : k < (ls.map lkCs).length := by simpa using hk
  have h3 := Own.put h k 1 hk' (by omega) (by simp [lkCs]) (.int .i64 d)
  unfold OwnK
  have e : (ls.map lkCs).set k ((ls.map lkCs)[k].set 1 (.int .i64 d)) = (ls.set k (ls[k].1, d, ls[k].2.2)).map lkCs := by
    rw [List.map_set]
    congr 1
    simp [lkCs]
  rw [e] at h3
  exact h3
theorem ktiny_set {L : List LK} (h : KTiny L) (k : Nat) (x : LK) (hx : x.1.size ≤ 1) : KTiny (L.set k x) := by
  intro y hy
  rcases List.mem_or_eq_of_mem_set hy with h1 | h1
  · exact h y h1
  · rw [h1]; exact hx
theorem ktiny_snoc {L : List LK} (h : KTiny L) (x : LK) (hx : x.1.size ≤ 1) : KTiny (L ++ [x]) := by
  intro y hy
  rcases List.mem_append.1 hy with h1 | h1
  · exact h y h1
  · rw [List.mem_singleton.1 h1]; exact hx
def txnsDr : List Int := [0, 60, 61]
set_option maxRecDepth 100000 in
set_option maxHeartbeats 8000000 in
theorem anyLocks_any (g : Nat) (l : List UInt8) (A : Option Addr) (c q : Nat) (w : World) (h : Cur w g l A c q) (hl : l.length ≤ 1048576) (hq : q ≤ 600000000) :
    Calls Try.prog 51 #[.pointer (some ⟨g, 0, none⟩)] w (LocksPost w g l A c q 110 8) := by
  obtain ⟨i0, hi0, hz0, hz1, hz2⟩ := info_parts infoLock
  have hlt := h.lt
  have H := Lib.hid h
  clear h
  go_enter Try.func51, Try.ntmps51
  go_wp2_with fail
  refine (locks_any g l A c q _ H.out hl (by omega)).mono ?_
  rintro e w1 ⟨A1, ca, L, q1, rfl, ho1, hL1, hty1, hq1, hC1, hG1⟩
  have HO1 := Lib.hid ho1
  have HTY := Lib.hid hty1
  have HC1 := Lib.hid hC1
  have HG1 := Lib.hid hG1
  obtain ⟨m, hm⟩ : ∃ m, m = L.length := ⟨_, rfl⟩
  rw [← hm] at hL1 ⊢
  have HLM := Lib.hid hm.symm
  have hzw := hG1.size
  clear ho1 hty1 hC1 hG1 H hm
  by_cases h0 : 0 < m
  · have h0i : (0 : Int) < (m : Int) := by omega
    have hm7i : (m : Int) ≤ 7 := by omega
    go_wp2_with fail
    refine (pick_any g l A c q1 25 _ HC1.out hl (by omega) (by omega) (by omega)).mono ?_
    rintro e w2 ⟨x, q2, hx0, hx1, rfl, hq2, hC2, hG2⟩
    have HO2 := Lib.hid (OwnK.wider (HO1.out.cur hG2 hlt) (Nat.le_refl _) hG2.size)
    have HG2 := Lib.hid (grown_trans HG1.out hG2)
    have HC2 := Lib.hid hC2
    have hz2w := HG2.out.size
    clear hG2 hC2
    obtain ⟨gg, rfl, hg1, hg2, hg3⟩ := HO2.out.at (by rw [HLM.out]; omega)
    obtain ⟨b9, off9, hA9, hb9, hc9⟩ := HO2.out.lks.get (by rw [HLM.out]; omega)
    injection hA9 with hA9
    injection hA9 with e1 e2
    subst e1 e2
    obtain ⟨v0, v1, v2⟩ := hc9 0 (by rw [HLM.out]; omega)
    simp only [Nat.zero_mul, Nat.add_zero, Nat.zero_add] at v0 v1 v2
    have hm0 : 0 < L.length := by rw [HLM.out]; exact h0
    obtain ⟨y, hy⟩ : ∃ y, y = L[0]'hm0 := ⟨_, rfl⟩
    have HYY := Lib.hid hy
    have hys : y.1.size ≤ 1 := by rw [hy]; exact HTY.out _ (List.getElem_mem hm0)
    rw [← hy] at v0 v1 v2
    obtain ⟨s', t', g'⟩ := y
    simp only at v0 v1 v2 hys
    clear hc9 hy hb9
    by_cases x0 : x = 0
    · subst x0
      have HBA := Lib.hid (below1 w2 (.cells #[.string s', .int .i64 t', .bool g'] 27))
      have HOA := Lib.hid (OwnK.grow (hi := 0) HO2.out HBA.out)
      have HROL := Lib.hid (k_row HO2.out HLM.out)
      have HROW := Lib.hid (k_row HOA.out HLM.out)
      have HNEW := Lib.hid (heap_alloc_new w2 (.cells #[.string s', .int .i64 t', .bool g'] 27))
      have hlx : w.heap.size ≤ (w2.alloc (.cells #[.string s', .int .i64 t', .bool g'] 27)).heap.size := by simp; omega
      have HN1 := Lib.hid (show (L ++ [(s', t', g')]).length = m + 1 by rw [List.length_append, HLM.out]; rfl)
      go_wp2_with (at_builtin; refine wpList_app rfl (.tmp 13) (.tmp 17) 24 rfl w.heap.size 27 i0 _ 3 32 Try.underlying24 hi0 hz0 hz1 hz2 rfl (by decide) (.slice (some ⟨gg, 0, none⟩) m ca) m ((L.map lkCs).flatten) rfl HROW.out (some ⟨w2.heap.size, 0, none⟩) 1 1 [.string s', .int .i64 t', .bool g'] rfl rfl (fun _ => ⟨_, rfl, World.news_of_block (cs := #[.string s', .int .i64 t', .bool g']) (t := 27) (fr := (0, 0)) HNEW.out⟩) (by simp [Value.oneCell']) (by unfold maxLen; omega) (by omega) hlx ?_; intro v5 w5 hown hgr _; have HG5 := Lib.hid (grown_app HG2.out HROL.out hgr); have HC5 := Lib.hid (HC2.out.belowB (below_app (Below.refl w.heap.size w2) (by omega) HROL.out hgr) hlt); obtain ⟨A5, c5, rfl, ho5⟩ := k_snoc HLM.out hown; have HO5 := Lib.hid ho5; clear hown hgr ho5)
      go_ret
      exact ⟨A5, c5, L ++ [(s', t', g')], q2, by rw [HN1.out]; rfl, HO5.out, by rw [HN1.out]; omega, ktiny_snoc HTY.out _ hys, by omega, HC5.out, HG5.out⟩
    · by_cases x1 : x = 1
      · subst x1
        have HO := Lib.hid (among_any g l A c q2 w2.heap.size 3 3 txnsDr _ (HC2.out.allocated (.cells (txnsDr.map (Value.int .i64)).toArray 3)) hl (by omega) rfl (by omega) (by omega) (by omega) (new_ints w2 txnsDr 3))
        go_wp2_with fail
        refine HO.out.mono ?_
        rintro e w3 ⟨y3, q3, hy3, rfl, hq3, hC3, hG3⟩
        have HG3a := Lib.hid (grown_trans (World.grownBy_alloc w2 (.cells (txnsDr.map (Value.int .i64)).toArray 3) (some g)) hG3)
        have HO3 := Lib.hid (OwnK.wider (HO2.out.cur HG3a.out hlt) (Nat.le_refl _) HG3a.out.size)
        have HG3 := Lib.hid (grown_trans HG2.out HG3a.out)
        have HPT := Lib.hid (OwnK.putT HO3.out 0 hm0 y3)
        have hvt := (HG3a.out.block gg hg3 (by intro e; injection e with e; omega))
        have hz3 := HG3a.out.size
        obtain ⟨b9, off9, hA9, hb9, hc9⟩ := HO3.out.lks.get hm0
        injection hA9 with hA9
        injection hA9 with e1 e2
        subst e1 e2
        obtain ⟨_, u1, _⟩ := hc9 0 hm0
        simp only [Nat.zero_mul, Nat.add_zero, Nat.zero_add] at u1
        have fz := OwnK.free HO3.out 1
        simp only [Nat.zero_mul, Nat.zero_add] at HPT
        have HC4 := Lib.hid (hC3.setNew (p := ⟨gg, 1, none⟩) (by simp; omega) (.int .i64 y3))
        have HG4 := Lib.hid (grown_setNew (p := ⟨gg, 1, none⟩) HG3.out (by simp; omega) (.int .i64 y3))
        have HLN := Lib.hid (show (L.set 0 (L[0].1, y3, L[0].2.2)).length = m by rw [List.length_set, HLM.out])
        have HTY4 := Lib.hid (ktiny_set HTY.out 0 (L[0].1, y3, L[0].2.2) (by rw [← HYY.out]; exact hys))
        have HO4 := Lib.hid (OwnK.wider HPT.out (Nat.le_refl _) (show w3.heap.size ≤ (w3.setCell ⟨gg, 1, none⟩ (.int .i64 y3)).heap.size by simp [World.setCell]))
        clear hC3 hG3 hy3 hc9 hb9 hvt v0 v1 v2
        go_wp2
        go_ret
        exact ⟨some ⟨gg, 0, none⟩, ca, _, q3, by rw [HLN.out]; rfl, HO4.out, by rw [HLN.out]; omega, HTY4.out, by omega, HC4.out, HG4.out⟩
      · by_cases x2 : x = 2
        · subst x2
          have HPW := Lib.hid (OwnK.putW HO2.out 0 hm0 (!g'))
          have fz := OwnK.free HO2.out 2
          simp only [Nat.zero_mul, Nat.zero_add] at HPW
          have HC4 := Lib.hid (HC2.out.setNew (p := ⟨gg, 2, none⟩) (by simp; omega) (.bool (!g')))
          have HG4 := Lib.hid (grown_setNew (p := ⟨gg, 2, none⟩) HG2.out (by simp; omega) (.bool (!g')))
          have HLN := Lib.hid (show (L.set 0 (L[0].1, L[0].2.1, !g')).length = m by rw [List.length_set, HLM.out])
          have HTY4 := Lib.hid (ktiny_set HTY.out 0 (L[0].1, L[0].2.1, !g') (by rw [← HYY.out]; exact hys))
          have HO4 := Lib.hid (OwnK.wider HPW.out (Nat.le_refl _) (show w2.heap.size ≤ (w2.setCell ⟨gg, 2, none⟩ (.bool (!g'))).heap.size by simp [World.setCell]))
          go_wp2
          go_ret
          exact ⟨some ⟨gg, 0, none⟩, ca, _, q2, by rw [HLN.out]; rfl, HO4.out, by rw [HLN.out]; omega, HTY4.out, by omega, HC4.out, HG4.out⟩
        · have y0 : (x == 0) = false := by simp [x0]
          have y1 : (x == 1) = false := by simp [x1]
          have y2 : (x == 2) = false := by simp [x2]
          have d0 : decide (x = 0) = false := by simp [x0]
          have d1 : decide (x = 1) = false := by simp [x1]
          have d2 : decide (x = 2) = false := by simp [x2]
          clear v0 v1 v2
          go_wp2
          go_ret
          exact ⟨some ⟨gg, 0, none⟩, ca, L, q2, by rw [HLM.out]; rfl, HO2.out, by rw [HLM.out]; omega, HTY.out, by omega, HC2.out, HG2.out⟩
  · have hm00 : m = 0 := by omega
    subst hm00
    go_wp2
    go_ret
    exact ⟨A1, ca, L, q1, by rw [HLM.out]; rfl, HO1.out, by rw [HLM.out]; omega, HTY.out, by omega, HC1.out, HG1.out⟩

def curBlkL (A : Option Addr) (n c : Nat) : Obj := .cells #[.slice A n c, .int .i64 ((0 : Nat) : Int), .int .u64 0] 68
theorem cur_newL (w : World) (g : Nat) (l : List UInt8) (A : Option Addr) (c n : Nat) (h : BytesAt w A l) (hg : g = w.heap.size) (hn : l.length = n) : Cur (w.alloc (curBlkL A n c)) g l A c 0 := by
  subst hg hn
  exact cur_new w l A c h
/-- Locks and a lock that are drawn. -/
def DrawLX (w : World) (e : Ending) (w' : World) : Prop :=
  ∃ (A1 : Option Addr) (ca : Nat) (L : List LK) (s : ByteArray) (t : Int) (b : Bool), e = .returned (.tuple #[.slice A1 L.length ca, .agg #[.string s, .int .i64 t, .bool b]]) ∧ OwnK w' w.heap.size w'.heap.size A1 ca L ∧ L.length ≤ 8 ∧ KTiny L ∧ s.size ≤ 1 ∧ Below w.heap.size w w'
def DrawLI (w : World) (e : Ending) (w' : World) : Prop :=
  ∃ (A1 : Option Addr) (ca : Nat) (L : List LK) (t : Int), e = .returned (.tuple #[.slice A1 L.length ca, .int .i64 t]) ∧ OwnK w' w.heap.size w'.heap.size A1 ca L ∧ L.length ≤ 8 ∧ KTiny L ∧ Below w.heap.size w w'
def DrawLFX (w : World) (e : Ending) (w' : World) : Prop :=
  ∃ (A1 : Option Addr) (ca : Nat) (L : List LK) (A2 : Option Addr) (cf : Nat) (fs : List Int) (s : ByteArray) (t : Int) (b : Bool), e = .returned (.tuple #[.slice A1 L.length ca, .slice A2 fs.length cf, .agg #[.string s, .int .i64 t, .bool b]]) ∧ OwnK w' w.heap.size w'.heap.size A1 ca L ∧ OwnI w' w.heap.size w'.heap.size A2 cf fs ∧ L.length ≤ 8 ∧ fs.length ≤ 1 ∧ KTiny L ∧ s.size ≤ 1 ∧ Below w.heap.size w w'

set_option maxRecDepth 100000 in
set_option maxHeartbeats 2000000 in
theorem drawFreeLocks_any (A : Option Addr) (n c : Nat) (l : List UInt8) (w : World) (hn : l.length = n) (h : BytesAt w A l) (hl : n ≤ 1048576) :
    Calls Try.prog 25 #[.slice A n c] w (DrawLI w) := by
  have HC := Lib.hid (cur_newL (w) (w.heap.size) l A c n (h) (rfl) hn)
  have hl' : l.length ≤ 1048576 := by omega
  have HB := Lib.hid (below1 w (curBlkL A n c))
  clear h hn
  go_enter Try.func25, Try.ntmps25
  go_wp2_with fail
  refine (anyLocks_any w.heap.size l A c 0 _ HC.out hl' (by omega)).mono ?_
  rintro e w1 ⟨A1, ca, L, q1, rfl, ho1, hL, hty, hq1, hC1, hG1⟩
  go_wp2_with fail
  refine (pick_any w.heap.size l A c q1 7 _ hC1 hl' (by omega) (by omega) (by omega)).mono ?_
  rintro e w2 ⟨x, q2, hx0, hx1, rfl, hq2, hC2, hG2⟩
  have HG := Lib.hid (grown_trans hG1 hG2)
  have HO := Lib.hid (OwnK.wider (lo' := w.heap.size) (ho1.cur hG2 (by simp)) (by simp) hG2.size)
  have HBB := Lib.hid (HB.out.trans (below_of_grown HG.out (Nat.le_refl _) (by simp)))
  have HL := Lib.hid hL
  have HTY := Lib.hid hty
  clear hG1 hG2 hC1 hC2 ho1 hL hty
  go_wp2
  exact bodyPost_ret (v := .tuple #[.slice A1 L.length ca, .int .i64 x]) (by simp [results, Try.results25, go_sem]) rfl ⟨A1, ca, L, x, rfl, HO.out, HL.out, HTY.out, HBB.out⟩
set_option maxRecDepth 100000 in
set_option maxHeartbeats 2000000 in
theorem drawTakeLock_any (A : Option Addr) (n c : Nat) (l : List UInt8) (w : World) (hn : l.length = n) (h : BytesAt w A l) (hl : n ≤ 1048576) :
    Calls Try.prog 23 #[.slice A n c] w (DrawLX w) := by
  have HC := Lib.hid (cur_newL (w.alloc (.cells #[.string ⟨#[]⟩, .int .i64 0, .bool false] 27)) (w.heap.size + 1) l A c n (h.below (below1 w _)) (by simp) hn)
  have hl' : l.length ≤ 1048576 := by omega
  have HB := Lib.hid (below2 w (.cells #[.string ⟨#[]⟩, .int .i64 0, .bool false] 27) (curBlkL A n c))
  have hr := (Below.heap_alloc (w.alloc (.cells #[.string ⟨#[]⟩, .int .i64 0, .bool false] 27)) (curBlkL A n c) w.heap.size (by simp)).trans (heap_alloc_new w (.cells #[.string ⟨#[]⟩, .int .i64 0, .bool false] 27))
  have HR := Lib.hid hr
  clear h hn hr
  go_enter Try.func23, Try.ntmps23
  go_wp2_with fail
  refine (anyLocks_any (w.heap.size + 1) l A c 0 _ HC.out hl' (by omega)).mono ?_
  rintro e w1 ⟨A1, ca, L, q1, rfl, ho1, hL, hty, hq1, hC1, hG1⟩
  go_wp2_with fail
  refine (lock_any (w.heap.size + 1) l A c q1 _ hC1 hl' (by omega)).mono ?_
  rintro e w2 ⟨s, t, b, q2, rfl, hs, hq2, hC2, hG2⟩
  have hG := grown_trans hG1 hG2
  have hr := block_kept hG HR.out (by omega)
  have cr0 := cell_blk (i := 0) hr rfl
  have cr1 := cell_blk (i := 1) hr rfl
  have cr2 := cell_blk (i := 2) hr rfl
  have fr0 := free_blk hr 0
  have fr1 := free_blk hr 1
  have fr2 := free_blk hr 2
  have HBB := Lib.hid (HB.out.trans (below_of_grown hG (by omega) (by simp; omega)))
  have HO := Lib.hid (OwnK.wider (lo' := w.heap.size + 1) (ho1.cur hG2 (by simp)) (by simp) hG2.size)
  have HL := Lib.hid hL
  have HTY := Lib.hid hty
  have HS := Lib.hid hs
  clear hG1 hG2 hG hC1 hC2 ho1 hL hty hr hs
  go_wp2
  exact bodyPost_ret (v := .tuple #[.slice A1 L.length ca, .agg #[.string s, .int .i64 t, .bool b]]) (by simp [results, Try.results23, go_sem, *]) rfl ⟨A1, ca, L, s, t, b, rfl, OwnK.wider (((HO.out.low (p := ⟨w.heap.size, 0, none⟩) (by simp) _).low (p := ⟨w.heap.size, 1, none⟩) (by simp) _).low (p := ⟨w.heap.size, 2, none⟩) (by simp) _) (by omega) (by simp [World.setCell]), HL.out, HTY.out, HS.out, ((HBB.out.setCell (p := ⟨w.heap.size, 0, none⟩) (Nat.le_refl _) _).setCell (p := ⟨w.heap.size, 1, none⟩) (Nat.le_refl _) _).setCell (p := ⟨w.heap.size, 2, none⟩) (Nat.le_refl _) _⟩
set_option maxRecDepth 100000 in
set_option maxHeartbeats 2000000 in
theorem drawAskLock_any (A : Option Addr) (n c : Nat) (l : List UInt8) (w : World) (hn : l.length = n) (h : BytesAt w A l) (hl : n ≤ 1048576) :
    Calls Try.prog 13 #[.slice A n c] w (DrawLFX w) := by
  have HC := Lib.hid (cur_newL (w.alloc (.cells #[.string ⟨#[]⟩, .int .i64 0, .bool false] 27)) (w.heap.size + 1) l A c n (h.below (below1 w _)) (by simp) hn)
  have hl' : l.length ≤ 1048576 := by omega
  have HB := Lib.hid (below2 w (.cells #[.string ⟨#[]⟩, .int .i64 0, .bool false] 27) (curBlkL A n c))
  have hr := (Below.heap_alloc (w.alloc (.cells #[.string ⟨#[]⟩, .int .i64 0, .bool false] 27)) (curBlkL A n c) w.heap.size (by simp)).trans (heap_alloc_new w (.cells #[.string ⟨#[]⟩, .int .i64 0, .bool false] 27))
  have HR := Lib.hid hr
  clear h hn hr
  go_enter Try.func13, Try.ntmps13
  go_wp2_with fail
  refine (one_any (w.heap.size + 1) l A c 0 3 _ HC.out hl' (by omega) (by omega) (by omega)).mono ?_
  rintro e w1 ⟨f, q1, rfl, hq1, hC1, hG1⟩
  have HC1 := Lib.hid hC1
  have HG1 := Lib.hid hG1
  clear hC1 hG1 HC
  cases f with
  | false =>
    go_wp2_with fail
    refine (anyLocks_any (w.heap.size + 1) l A c q1 _ HC1.out hl' (by omega)).mono ?_
    rintro e w4 ⟨A4, ca, L, q4, rfl, ho4, hL, hty, hq4, hC4, hG4⟩
    have HG4 := Lib.hid (grown_trans HG1.out hG4)
    have hgs := HG1.out.size
    simp only [World.size_alloc] at hgs
    have HO4 := Lib.hid (OwnK.wider (lo' := w.heap.size + 2) ho4 (by first | omega | (simp only [World.size_alloc]; omega)) (Nat.le_refl _))
    have HC4 := Lib.hid hC4
    have HL := Lib.hid hL
    have HTY := Lib.hid hty
    clear ho4 hC4 hG4 hL hty hgs
    go_wp2_with fail
    refine (lock_any (w.heap.size + 1) l A c q4 _ HC4.out hl' (by omega)).mono ?_
    rintro e w5 ⟨s, t, b, q5, rfl, hs, hq5, hC5, hG5⟩
    have hG := grown_trans HG4.out hG5
    have hr := block_kept hG HR.out (by omega)
    have cr0 := cell_blk (i := 0) hr rfl
    have cr1 := cell_blk (i := 1) hr rfl
    have cr2 := cell_blk (i := 2) hr rfl
    have fr0 := free_blk hr 0
    have fr1 := free_blk hr 1
    have fr2 := free_blk hr 2
    have HBB := Lib.hid (HB.out.trans (below_of_grown hG (by omega) (by simp; omega)))
    have HO := Lib.hid (OwnK.wider (HO4.out.cur hG5 (by omega)) (Nat.le_refl _) hG5.size)
    have HOF := Lib.hid (i_nil w5 (w.heap.size + 2) w5.heap.size)
    have HS := Lib.hid hs
    clear hG5 hG hC5 hr hs
    go_wp2
    exact bodyPost_ret (v := .tuple #[.slice A4 L.length ca, .slice none 0 0, .agg #[.string s, .int .i64 t, .bool b]]) (by simp [results, Try.results13, go_sem, *]) rfl ⟨A4, ca, L, none, 0, [], s, t, b, rfl, OwnK.wider (((HO.out.low (p := ⟨w.heap.size, 0, none⟩) (by simp) _).low (p := ⟨w.heap.size, 1, none⟩) (by simp) _).low (p := ⟨w.heap.size, 2, none⟩) (by simp) _) (by omega) (by simp [World.setCell]), OwnI.wider (((HOF.out.low (p := ⟨w.heap.size, 0, none⟩) (by simp) _).low (p := ⟨w.heap.size, 1, none⟩) (by simp) _).low (p := ⟨w.heap.size, 2, none⟩) (by simp) _) (by omega) (by simp [World.setCell]), HL.out, by simp, HTY.out, HS.out, ((HBB.out.setCell (p := ⟨w.heap.size, 0, none⟩) (Nat.le_refl _) _).setCell (p := ⟨w.heap.size, 1, none⟩) (Nat.le_refl _) _).setCell (p := ⟨w.heap.size, 2, none⟩) (Nat.le_refl _) _⟩
  | true =>
    go_wp2_with fail
    refine (pick_any (w.heap.size + 1) l A c q1 5 _ HC1.out hl' (by omega) (by omega) (by omega)).mono ?_
    rintro e w2 ⟨x, q2, hx0, hx1, rfl, hq2, hC2, hG2⟩
    have HG2 := Lib.hid (grown_alloc (grown_trans HG1.out hG2) (.cells #[.int .i64 (1 + x)] 3))
    have HC2 := Lib.hid (hC2.allocated (.cells #[.int .i64 (1 + x)] 3))
    have hgz := (grown_trans HG1.out hG2).size
    simp only [World.size_alloc] at hgz
    have HOI := Lib.hid (show OwnI (w2.alloc (.cells #[.int .i64 (1 + x)] 3)) (w.heap.size + 2) (w2.alloc (.cells #[.int .i64 (1 + x)] 3)).heap.size (some ⟨w2.heap.size, 0, none⟩) 1 [1 + x] from .inr ⟨w2.heap.size, #[.int .i64 (1 + x)], rfl, by omega, by simp, heap_alloc_new w2 _, by simp, by unfold maxLen; omega, by simp, fun j hj i hi => by
      have hj0 : j = 0 := by simp at hj; omega
      have hi0 : i = 0 := by omega
      subst hj0 hi0
      simp [intCs]⟩)
    clear hC2 hG2
    go_wp2_with fail
    refine (anyLocks_any (w.heap.size + 1) l A c q2 _ HC2.out hl' (by omega)).mono ?_
    rintro e w4 ⟨A4, ca, L, q4, rfl, ho4, hL, hty, hq4, hC4, hG4⟩
    have HG4 := Lib.hid (grown_trans HG2.out hG4)
    have hgs := HG2.out.size
    simp only [World.size_alloc] at hgs
    have HO4 := Lib.hid (OwnK.wider (lo' := w.heap.size + 2) ho4 (by first | omega | (simp only [World.size_alloc]; omega)) (Nat.le_refl _))
    have HC4 := Lib.hid hC4
    have HL := Lib.hid hL
    have HTY := Lib.hid hty
    have HOI4 := Lib.hid (OwnI.wider (own_curI HOI.out hG4 (by omega)) (Nat.le_refl _) hG4.size)
    clear ho4 hC4 hG4 hL hty hgs
    go_wp2_with fail
    refine (lock_any (w.heap.size + 1) l A c q4 _ HC4.out hl' (by omega)).mono ?_
    rintro e w5 ⟨s, t, b, q5, rfl, hs, hq5, hC5, hG5⟩
    have hG := grown_trans HG4.out hG5
    have hr := block_kept hG HR.out (by omega)
    have cr0 := cell_blk (i := 0) hr rfl
    have cr1 := cell_blk (i := 1) hr rfl
    have cr2 := cell_blk (i := 2) hr rfl
    have fr0 := free_blk hr 0
    have fr1 := free_blk hr 1
    have fr2 := free_blk hr 2
    have HBB := Lib.hid (HB.out.trans (below_of_grown hG (by omega) (by simp; omega)))
    have HO := Lib.hid (OwnK.wider (HO4.out.cur hG5 (by omega)) (Nat.le_refl _) hG5.size)
    have HOF := Lib.hid (OwnI.wider (own_curI HOI4.out hG5 (by omega)) (Nat.le_refl _) hG5.size)
    have HS := Lib.hid hs
    clear hG5 hG hC5 hr hs
    go_wp2
    exact bodyPost_ret (v := .tuple #[.slice A4 L.length ca, .slice (some ⟨w2.heap.size, 0, none⟩) 1 1, .agg #[.string s, .int .i64 t, .bool b]]) (by simp [results, Try.results13, go_sem, *]) rfl ⟨A4, ca, L, (some ⟨w2.heap.size, 0, none⟩), 1, [1 + x], s, t, b, rfl, OwnK.wider (((HO.out.low (p := ⟨w.heap.size, 0, none⟩) (by simp) _).low (p := ⟨w.heap.size, 1, none⟩) (by simp) _).low (p := ⟨w.heap.size, 2, none⟩) (by simp) _) (by omega) (by simp [World.setCell]), OwnI.wider (((HOF.out.low (p := ⟨w.heap.size, 0, none⟩) (by simp) _).low (p := ⟨w.heap.size, 1, none⟩) (by simp) _).low (p := ⟨w.heap.size, 2, none⟩) (by simp) _) (by omega) (by simp [World.setCell]), HL.out, by simp, HTY.out, HS.out, ((HBB.out.setCell (p := ⟨w.heap.size, 0, none⟩) (Nat.le_refl _) _).setCell (p := ⟨w.heap.size, 1, none⟩) (Nat.le_refl _) _).setCell (p := ⟨w.heap.size, 2, none⟩) (Nat.le_refl _) _⟩
end Go.Proofs.Ytlfdefjkfacngaa.Lk
