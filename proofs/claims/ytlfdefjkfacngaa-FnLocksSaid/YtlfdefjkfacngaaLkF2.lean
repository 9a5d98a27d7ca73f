/-
  The program's tables of locks: lockTable, hasOnly, IndexFunc and ContainsFunc over a bound method; GoodLocks.
-/
import Derived.Test.YtlfdefjkfacngaaLkF1
namespace Go.Proofs.Ytlfdefjkfacngaa.Lk
open Go.RowKit CM
set_option linter.unusedVariables false
set_option linter.unusedSimpArgs false

theorem lockTable_any (A : Option Addr) (n c : Nat) (w : World) :
    Calls Try.prog 64 #[.slice A n c] w fun e w' => e = .returned (.agg #[.slice A n c, .int .i64 60]) ∧ Below w.heap.size w w' := by
  go_enter Try.func64, Try.ntmps64
  go_wp2
  exact bodyPost_ret (v := .agg #[.slice A n c, .int .i64 60]) (by simp [results, Try.results64, go_sem]) rfl ⟨rfl, by first | exact below1 _ _ | exact below2 _ _ _ | exact ((below1 w _).setCell (p := ⟨w.heap.size, 0, none⟩) (Nat.le_refl _) _).setCell (p := ⟨w.heap.size, 1, none⟩) (Nat.le_refl _) _⟩
theorem any_drop {p : LK → Bool} {ls : List LK} {k : Nat} (hk : k < ls.length) : (ls.drop k).any p = (p ls[k] || (ls.drop (k + 1)).any p) := by
  rw [List.drop_eq_getElem_cons hk]; rfl
theorem any_done {p : LK → Bool} {ls : List LK} {k : Nat} (hk : ls.length ≤ k) : (ls.drop k).any p = false := by
  rw [List.drop_eq_nil_of_le hk]; rfl
theorem all_drop {p : LK → Bool} {ls : List LK} {k : Nat} (hk : k < ls.length) : (ls.drop k).all p = (p ls[k] && (ls.drop (k + 1)).all p) := by
  rw [List.drop_eq_getElem_cons hk]; rfl
theorem all_done {p : LK → Bool} {ls : List LK} {k : Nat} (hk : ls.length ≤ k) : (ls.drop k).all p = true := by
  rw [List.drop_eq_nil_of_le hk]; rfl
/-- The place of the first element that is so, or -1. -/
def IxPost (p : LK → Bool) (ls : List LK) (w : World) (e : Ending) (w' : World) : Prop :=
  ∃ r : Int, e = .returned (.int .i64 r) ∧ ((∃ k, ∃ h : k < ls.length, r = (k : Int) ∧ p ls[k] = true ∧ (ls.take k).any p = false) ∨ (r = -1 ∧ ls.any p = false)) ∧ Below w.heap.size w w'
theorem ix_any {p : LK → Bool} {ls : List LK} {k : Nat} (h : k < ls.length) (hp : p ls[k] = true) : ls.any p = true := List.any_eq_true.2 ⟨_, List.getElem_mem h, hp⟩


set_option maxRecDepth 100000 in
set_option maxHeartbeats 2000000 in
theorem idxEx_any (s : ByteArray) (t : Int) (g : Bool) (A : Option Addr) (n c : Nat) (ls : List LK) (B : Nat) (w : World) (hn : ls.length = n) (hcp : n ≤ c) (h : LksB w B A ls) (hB : B ≤ w.heap.size) (hm : KSmall ls) :
    Calls Try.prog 103 #[.slice A n c, (.func (.func 70) #[.agg #[.string s, .int .i64 t, .bool g]] #[])] w (IxPost (exclB (s, t, g)) ls w) := by
  have hge := Nat.le_of_eq hn
  have hle := Nat.le_of_eq hn.symm
  have HS := Lib.hid h
  have hm1 := hm.1
  rw [hn] at hm1
  clear hn h hm
  go_enter Try.func103, Try.ntmps103
  go_wp2
  go_loopw [8] (fun i wr => ∃ k : Nat, k ≤ n ∧ i = .int .i64 k ∧ Hid ((ls.take k).any (exclB (s, t, g)) = false) ∧ Hid (Below w.heap.size w wr)) (fun i _ => n - (intOf i).toNat)
  case atStart => exact ⟨0, by omega, rfl, Lib.hid rfl, Lib.hid (Below.refl _ _)⟩
  case round =>
    obtain ⟨k, hk, rfl, HP, HB⟩ := hrel
    by_cases hlt : k < n
    · obtain ⟨b, off, rfl, hbB, hc⟩ := HS.out.get (by omega)
      obtain ⟨hc0, hc1, hc2⟩ := hc k (by omega)
      have c0 := (HB.out.cell (p := ⟨b, off + k * 3, none⟩) (Nat.lt_of_lt_of_le hbB hB)).trans hc0
      have c1 := (HB.out.cell (p := ⟨b, off + k * 3 + 1, none⟩) (Nat.lt_of_lt_of_le hbB hB)).trans hc1
      have c2 := (HB.out.cell (p := ⟨b, off + k * 3 + 2, none⟩) (Nat.lt_of_lt_of_le hbB hB)).trans hc2
      have hk0 : (0 : Int) ≤ (k : Int) := by omega
      have HSU : Hid (exclB (s, t, g) (ls[k]'(by omega)) = false → (ls.take (k + 1)).any (exclB (s, t, g)) = false) := Lib.hid fun h => by
        rw [List.take_succ_eq_append_getElem (by omega), List.any_append, HP.out]; simp [h]
      have HYES : Hid (exclB (s, t, g) (ls[k]'(by omega)) = true → ∀ w', Below w.heap.size w w' → IxPost (exclB (s, t, g)) ls w (.returned (.int .i64 (k : Int))) w') := Lib.hid fun h w' hb => ⟨k, rfl, .inl ⟨k, by omega, rfl, h, HP.out⟩, hb⟩
      obtain ⟨y, hy⟩ : ∃ y, y = ls[k]'(by omega) := ⟨_, rfl⟩
      rw [← hy] at c0 c1 c2 HSU HYES
      obtain ⟨s', t', g'⟩ := y
      simp only at c0 c1 c2
      have HC := Lib.hid (fun W => excludes_any s t g s' t' g' W)
      clear hc hc0 hc1 hc2 hy HP
      obtain ⟨r1, hr1⟩ : ∃ r, r = exclB (s, t, g) (s', t', g') := ⟨_, rfl⟩
      rw [← hr1] at HC HSU HYES
      clear hr1
      go_wp2_with fail
      refine (HC.out _).mono ?_
      rintro e w4 ⟨rfl, hb4⟩
      have HB4 := Lib.hid (HB.out.trans (hb4.mono HB.out.size))
      clear hb4 c0 c1 c2
      cases r1 with
      | true =>
        have HF := Lib.hid (HYES.out rfl w4 HB4.out)
        go_wp2
        go_ret
        exact HF.out
      | false =>
        have HG := Lib.hid (HSU.out rfl)
        go_wp2
        go_roundw
        case rel => exact ⟨k + 1, by omega, by go_num, HG, HB4⟩
        case measure => simp [intOf]; omega
    · have HF := Lib.hid (show IxPost (exclB (s, t, g)) ls w (.returned (.int .i64 (-1))) wr from ⟨-1, rfl, .inr ⟨rfl, by have := HP.out; rwa [List.take_of_length_le (by omega)] at this⟩, HB.out⟩)
      go_wp2
      go_ret
      exact HF.out
theorem hasEx_any (s : ByteArray) (t : Int) (g : Bool) (A : Option Addr) (n c : Nat) (ls : List LK) (B : Nat) (w : World) (hn : ls.length = n) (hcp : n ≤ c) (h : LksB w B A ls) (hB : B ≤ w.heap.size) (hm : KSmall ls) :
    Calls Try.prog 69 #[.slice A n c, (.func (.func 70) #[.agg #[.string s, .int .i64 t, .bool g]] #[])] w fun e w' => e = .returned (.bool (ls.any (exclB (s, t, g)))) ∧ Below w.heap.size w w' := by
  have HC := Lib.hid (idxEx_any s t g A n c ls B w hn hcp h hB hm)
  clear h
  go_enter Try.func69, Try.ntmps69
  go_wp2_with fail
  refine HC.out.mono ?_
  rintro e w4 ⟨r, rfl, hr, hb4⟩
  have HB4 := Lib.hid hb4
  clear hb4
  rcases hr with ⟨k, hk, rfl, hp, _⟩ | ⟨rfl, hg⟩
  · have HF := Lib.hid (ret_bool (ix_any hk hp).symm)
    have hk0 : (0 : Int) ≤ (k : Int) := by omega
    clear hp
    go_wp2
    go_ret
    exact ⟨HF.out, HB4.out⟩
  · have HF := Lib.hid (ret_bool hg.symm)
    clear hg
    go_wp2
    go_ret
    exact ⟨HF.out, HB4.out⟩

set_option maxRecDepth 100000 in
set_option maxHeartbeats 2000000 in
theorem hasOnly_any (A : Option Addr) (n c : Nat) (ls : List LK) (B : Nat) (w : World) (hn : ls.length = n) (hcp : n ≤ c) (h : LksB w B A ls) (hB : B ≤ w.heap.size) (hm : KSmall ls) :
    Calls Try.prog 68 #[.agg #[.slice A n c, .int .i64 60], (.func (.func 63) #[] #[])] w fun e w' => e = .returned (.bool (decide (n ≤ 60) && ls.all lkB)) ∧ Below w.heap.size w w' := by
  have HB0 := Lib.hid (below1 w (.cells #[.slice A n c, .int .i64 60] 83))
  have hge := Nat.le_of_eq hn
  have hle := Nat.le_of_eq hn.symm
  have HS := Lib.hid h
  have hm1 := hm.1
  have HM := Lib.hid hm.2
  rw [hn] at hm1
  clear hn h hm
  by_cases h60 : n ≤ 60
  · rw [show decide (n ≤ 60) = true by simpa using h60, Bool.true_and]
    have h60i : (n : Int) ≤ 60 := by omega
    go_enter Try.func68, Try.ntmps68
    go_wp2
    go_loopw [16] (fun i wr => ∃ k : Nat, k ≤ n ∧ i = .int .i64 k ∧ Hid ((ls.drop k).all lkB = ls.all lkB) ∧ Hid (Below w.heap.size w wr)) (fun i _ => n - (intOf i).toNat)
    case atStart => exact ⟨0, by omega, rfl, Lib.hid rfl, HB0⟩
    case round =>
      clear HB0
      obtain ⟨k, hk, rfl, HP, HB⟩ := hrel
      by_cases hlt : k < n
      · obtain ⟨b, off, rfl, hbB, hc⟩ := HS.out.get (by omega)
        obtain ⟨hc0, hc1, hc2⟩ := hc k (by omega)
        have c0 := (HB.out.cell (p := ⟨b, off + k * 3, none⟩) (Nat.lt_of_lt_of_le hbB hB)).trans hc0
        have c1 := (HB.out.cell (p := ⟨b, off + k * 3 + 1, none⟩) (Nat.lt_of_lt_of_le hbB hB)).trans hc1
        have c2 := (HB.out.cell (p := ⟨b, off + k * 3 + 2, none⟩) (Nat.lt_of_lt_of_le hbB hB)).trans hc2
        have hk0 : (0 : Int) ≤ (k : Int) := by omega
        have HSU := Lib.hid (all_drop (p := lkB) (ls := ls) (k := k) (by omega))
        have hxs := HM.out _ (List.getElem_mem (show k < ls.length by omega))
        obtain ⟨y, hy⟩ : ∃ y, y = ls[k]'(by omega) := ⟨_, rfl⟩
        rw [← hy] at c0 c1 c2 HSU hxs
        obtain ⟨s, t, g⟩ := y
        simp only at c0 c1 c2 hxs
        have HC := Lib.hid (fun W => goodLock_any s t g W hxs)
        have HBX := Lib.hid (HB.out.trans ((below1 wr (.cells #[.string s, .int .i64 t, .bool g] 27)).mono HB.out.size))
        clear hc hc0 hc1 hc2 hy hxs
        obtain ⟨r1, hr1⟩ : ∃ r, r = lkB (s, t, g) := ⟨_, rfl⟩
        rw [← hr1] at HC HSU
        clear hr1
        go_wp2_with fail
        refine (HC.out _).mono ?_
        rintro e w4 ⟨rfl, hb4⟩
        have HB4 := Lib.hid (HBX.out.trans (hb4.mono HBX.out.size))
        clear hb4 c0 c1 c2
        cases r1 with
        | true =>
          have HG := Lib.hid (show (ls.drop (k + 1)).all lkB = ls.all lkB by rw [← HP.out, HSU.out]; rfl)
          go_wp2
          go_roundw
          case rel => exact ⟨k + 1, by omega, by go_num, HG, HB4⟩
          case measure => simp [intOf]; omega
        | false =>
          have HF := Lib.hid (ret_bool (show false = ls.all lkB by rw [← HP.out, HSU.out]; rfl))
          go_wp2
          go_ret
          exact ⟨HF.out, HB4.out⟩
      · have HF := Lib.hid (ret_bool (show true = ls.all lkB by rw [← HP.out, all_done (by omega)]))
        go_wp2
        go_ret
        exact ⟨HF.out, HB.out⟩
  · rw [show decide (n ≤ 60) = false by simpa using h60, Bool.false_and]
    have h60i : (60 : Int) < (n : Int) := by omega
    go_enter Try.func68, Try.ntmps68
    go_wp2
    go_ret
    exact ⟨rfl, HB0.out⟩

theorem goodB_no {l : List LK} (h : (decide (l.length ≤ 60) && l.all lkB) = false) : goodB l = false := by
  unfold goodB; rw [← Bool.and_assoc, h]; rfl
theorem goodB_yes {l : List LK} (h : (decide (l.length ≤ 60) && l.all lkB) = true) : goodB l = freeB l := by
  unfold goodB; rw [← Bool.and_assoc, h]; rfl
set_option maxRecDepth 100000 in
set_option maxHeartbeats 4000000 in
theorem implGoodLocks_any (A : Option Addr) (n c : Nat) (ls : List LK) (B : Nat) (w : World) (hn : ls.length = n) (hcp : n ≤ c) (h : LksB w B A ls) (hB : B ≤ w.heap.size) (hm : KSmall ls) :
    Calls Try.prog 18 #[.slice A n c] w fun e w' => e = .returned (.bool (goodB ls)) ∧ Below w.heap.size w w' := by
  have hge := Nat.le_of_eq hn
  have hle := Nat.le_of_eq hn.symm
  have HL := Lib.hid (fun W => lockTable_any A n c W)
  have HO := Lib.hid (fun W (hW : Below w.heap.size w W) => hasOnly_any A n c ls B W hn hcp (h.below (hW.mono hB)) (Nat.le_trans hB hW.size) hm)
  have HS := Lib.hid h
  have HN := Lib.hid hn
  have HM := Lib.hid hm
  have hm1 := hm.1
  rw [hn] at hm1
  have HNO := Lib.hid (goodB_no (l := ls))
  have HYES := Lib.hid (goodB_yes (l := ls))
  rw [hn] at HNO HYES
  clear hn h hm
  obtain ⟨r0, hr0⟩ : ∃ r, r = (decide (n ≤ 60) && ls.all lkB) := ⟨_, rfl⟩
  rw [← hr0] at HO HNO HYES
  clear hr0
  cases r0 with
  | false =>
    have HF := Lib.hid (ret_bool (HNO.out rfl).symm)
    go_enter Try.func18, Try.ntmps18
    go_wp2_with fail
    refine (HL.out _).mono ?_
    rintro e w1 ⟨rfl, hb1⟩
    have HB1 := Lib.hid hb1
    clear hb1
    go_wp2_with fail
    refine (HO.out _ HB1.out).mono ?_
    rintro e w2 ⟨rfl, hb2⟩
    have HB2 := Lib.hid (HB1.out.trans (hb2.mono HB1.out.size))
    clear hb2
    go_wp2
    go_ret
    exact ⟨HF.out, HB2.out⟩
  | true =>
    rw [HYES.out rfl]
    go_enter Try.func18, Try.ntmps18
    go_wp2_with fail
    refine (HL.out _).mono ?_
    rintro e w1 ⟨rfl, hb1⟩
    have HB1 := Lib.hid hb1
    clear hb1
    go_wp2_with fail
    refine (HO.out _ HB1.out).mono ?_
    rintro e w2 ⟨rfl, hb2⟩
    have HB2 := Lib.hid (HB1.out.trans (hb2.mono HB1.out.size))
    clear hb2
    go_wp2
    go_loopw [11] (fun i wr => ∃ k : Nat, k ≤ n ∧ i = .int .i64 k ∧ Hid (freeB (ls.drop k) = freeB ls) ∧ Hid (Below w.heap.size w wr)) (fun i _ => n - (intOf i).toNat)
    case atStart => exact ⟨0, by omega, rfl, Lib.hid rfl, HB2⟩
    case round =>
      clear HB1 HB2
      obtain ⟨k, hk, rfl, HP, HB⟩ := hrel
      by_cases hlt : k < n
      · obtain ⟨b, off, rfl, hbB, hc⟩ := HS.out.get (by omega)
        obtain ⟨hc0, hc1, hc2⟩ := hc k (by omega)
        have c0 := (HB.out.cell (p := ⟨b, off + k * 3, none⟩) (Nat.lt_of_lt_of_le hbB hB)).trans hc0
        have c1 := (HB.out.cell (p := ⟨b, off + k * 3 + 1, none⟩) (Nat.lt_of_lt_of_le hbB hB)).trans hc1
        have c2 := (HB.out.cell (p := ⟨b, off + k * 3 + 2, none⟩) (Nat.lt_of_lt_of_le hbB hB)).trans hc2
        have hk0 : (0 : Int) ≤ (k : Int) := by omega
        have hkn : (k : Int) < (n : Int) := by omega
        have hs1 : (0 : Int) ≤ (k : Int) + 1 := by omega
        have hs2 : (k : Int) + 1 ≤ (n : Int) := by omega
        have hs3 : (n : Int) ≤ (c : Int) := by omega
        have hs4 : (0 : Int) ≤ (n : Int) := by omega
        have hs5 : IntKind.i64.wrap ((k : Int) + 1) = (k : Int) + 1 := by rw [IntKind.wrap_i64]; omega
        have HSU := Lib.hid (freeB_drop (l := ls) (k := k) (by omega))
        obtain ⟨y, hy⟩ : ∃ y, y = ls[k]'(by omega) := ⟨_, rfl⟩
        rw [← hy] at c0 c1 c2 HSU
        obtain ⟨s, t, g⟩ := y
        simp only at c0 c1 c2
        have HBX := Lib.hid (HB.out.trans ((below1 wr (.cells #[.string s, .int .i64 t, .bool g] 27)).mono HB.out.size))
        have hk1 := heap_alloc_new wr (.cells #[.string s, .int .i64 t, .bool g] 27)
        obtain ⟨AD, hAD⟩ : ∃ AD : Option Addr, AD = (if c = k + 1 then some ⟨b, off, none⟩ else some ⟨b, off + (k + 1) * 3, none⟩) := ⟨_, rfl⟩
        have HPT := Lib.hid (show LksB w B AD (ls.drop (k + 1)) by
          rw [hAD]
          by_cases hck : c = k + 1
          · rw [List.drop_eq_nil_of_le (by omega)]; exact .inl rfl
          · rw [if_neg hck]; exact HS.out.part (k + 1) (by omega))
        have hADs := hAD.symm
        clear hAD
        have HC := Lib.hid (fun W (hW : Below w.heap.size w W) => hasEx_any s t g AD (n - (k + 1)) (c - (k + 1)) (ls.drop (k + 1)) B W (by rw [List.length_drop, HN.out]) (by omega) (HPT.out.below (hW.mono hB)) (Nat.le_trans hB hW.size) ⟨by rw [List.length_drop, HN.out]; omega, fun x hx => HM.out.2 x (List.mem_of_mem_drop hx)⟩)
        obtain ⟨r1, hr1⟩ : ∃ r, r = (ls.drop (k + 1)).any (exclB (s, t, g)) := ⟨_, rfl⟩
        rw [← hr1] at HC HSU
        clear hr1 hc hc0 hc1 hc2 hy
        cases r1 with
        | true =>
          have HF := Lib.hid (ret_bool (show false = freeB ls by rw [← HP.out, HSU.out]; rfl))
          go_wp2_with fail
          obtain ⟨wx, hwx⟩ : ∃ wx, wx = wr.alloc (.cells #[.string s, .int .i64 t, .bool g] 27) := ⟨_, rfl⟩
          rw [← hwx] at HBX hk1 ⊢
          clear hwx
          have x0 := cell_blk (i := 0) hk1 rfl
          have x1 := cell_blk (i := 1) hk1 rfl
          have x2 := cell_blk (i := 2) hk1 rfl
          have hlx := lt_blk hk1
          have hbel := Below.refl wx.heap.size wx
          go_region_held3 (fun w' => w'.cell? ⟨wr.heap.size, 0, none⟩ = some (.string s) ∧ w'.cell? ⟨wr.heap.size, 1, none⟩ = some (.int .i64 t) ∧ w'.cell? ⟨wr.heap.size, 2, none⟩ = some (.bool g))
            (first | exact ⟨x0, x1, x2⟩ | (go_split_ands; exact ⟨kept2 hb4 x0 hlx, kept2 hb4 x1 hlx, kept2 hb4 x2 hlx⟩))
            ((go_at_call 69; (with_reducible refine (HC.out _ HBX.out.drew).mono ?_); rintro e w4 ⟨rfl, hb4⟩))
          have HB4 := Lib.hid (Below.trans (b := wx.drew) HBX.out.drew (hb4.mono HBX.out.size))
          clear hb4
          clear x0 x1 x2 hlx hbel hk1 c0 c1 c2
          go_wp2
          go_ret
          exact ⟨HF.out, HB4.out⟩
        | false =>
          have HG := Lib.hid (show freeB (ls.drop (k + 1)) = freeB ls by rw [← HP.out, HSU.out]; rfl)
          go_wp2_with fail
          obtain ⟨wx, hwx⟩ : ∃ wx, wx = wr.alloc (.cells #[.string s, .int .i64 t, .bool g] 27) := ⟨_, rfl⟩
          rw [← hwx] at HBX hk1 ⊢
          clear hwx
          have x0 := cell_blk (i := 0) hk1 rfl
          have x1 := cell_blk (i := 1) hk1 rfl
          have x2 := cell_blk (i := 2) hk1 rfl
          have hlx := lt_blk hk1
          have hbel := Below.refl wx.heap.size wx
          go_region_held3 (fun w' => w'.cell? ⟨wr.heap.size, 0, none⟩ = some (.string s) ∧ w'.cell? ⟨wr.heap.size, 1, none⟩ = some (.int .i64 t) ∧ w'.cell? ⟨wr.heap.size, 2, none⟩ = some (.bool g))
            (first | exact ⟨x0, x1, x2⟩ | (go_split_ands; exact ⟨kept2 hb4 x0 hlx, kept2 hb4 x1 hlx, kept2 hb4 x2 hlx⟩))
            ((go_at_call 69; (with_reducible refine (HC.out _ HBX.out.drew).mono ?_); rintro e w4 ⟨rfl, hb4⟩))
          have HB4 := Lib.hid (Below.trans (b := wx.drew) HBX.out.drew (hb4.mono HBX.out.size))
          clear hb4
          clear x0 x1 x2 hlx hbel hk1 c0 c1 c2
          go_wp2
          go_roundw
          case rel => exact ⟨k + 1, by omega, by go_num, HG, HB4⟩
          case measure => simp [intOf]; omega
      · have HF := Lib.hid (ret_bool (show true = freeB ls by rw [← HP.out, List.drop_eq_nil_of_le (by omega)]; rfl))
        go_wp2
        go_ret
        exact ⟨HF.out, HB.out⟩
end Go.Proofs.Ytlfdefjkfacngaa.Lk
