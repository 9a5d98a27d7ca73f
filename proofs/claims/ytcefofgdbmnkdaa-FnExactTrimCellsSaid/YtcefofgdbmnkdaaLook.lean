/-
  Contracts for the lookup of a key at a time: l3Ver, l3Look, CellAt of the model; CellAt of the program.
-/
import Derived.Test.YtcefofgdbmnkdaaLast
import Derived.Test.YtcefofgdbmnkdaaNeeded
namespace Go.Proofs.Ytcefofgdbmnkdaa
open Go.RowKit CM
set_option linter.unusedVariables false

/-- What l3Ver hands back. -/
def VerPost (vs : List (Int × ByteArray × Bool)) (t : Int) (w : World) (e : Ending) (w' : World) : Prop :=
  ∃ (a : Int) (s : ByteArray) (g m : Bool), e = .returned (.tuple #[.agg #[.int .i64 a, .string s, .bool g], .bool m]) ∧ (verAt vs t = if m then some (a, s, g) else none) ∧ (m = false → s = ⟨#[]⟩) ∧ Below w.heap.size w w'
/-- What its loop keeps. -/
def VerRel (vs : List (Int × ByteArray × Bool)) (t : Int) (w wr : World) (k : Nat) (v : Value) : Prop :=
  ∃ (a : Int) (s : ByteArray) (g m : Bool), v = .bool m ∧ (verAt (vs.take k) t = if m then some (a, s, g) else none) ∧ (m = false → s = ⟨#[]⟩) ∧ wr.heap[w.heap.size + 1 + 1]? = some (.cells #[.int .i64 a, .string s, .bool g] 83 (0, 0)) ∧ wr.heap[w.heap.size + 1]? = some (.cells #[.int .i64 0, .string ⟨#[]⟩, .bool false] 83 (0, 0)) ∧ Below w.heap.size w wr
theorem VerRel.start (vs : List (Int × ByteArray × Bool)) (t : Int) (w wr : World) (h1 : wr.heap[w.heap.size + 1 + 1]? = some (.cells #[.int .i64 0, .string ⟨#[]⟩, .bool false] 83 (0, 0))) (h2 : wr.heap[w.heap.size + 1]? = some (.cells #[.int .i64 0, .string ⟨#[]⟩, .bool false] 83 (0, 0))) (h3 : Below w.heap.size w wr) : VerRel vs t w wr 0 (.bool false) :=
  ⟨0, ⟨#[]⟩, false, false, rfl, rfl, fun _ => rfl, h1, h2, h3⟩

set_option maxRecDepth 100000 in
set_option maxHeartbeats 1000000 in
theorem l3Ver_any (key : ByteArray) (A : Option Addr) (n c : Nat) (vs : List (Int × ByteArray × Bool)) (t : Int) (B : Nat) (w : World) (hn : vs.length = n) (h : VersB w B A vs) (hB : B ≤ w.heap.size) (hl : n ≤ 1048576) :
    Calls Try.prog 108 #[.agg #[.string key, .slice A n c], .int .i64 t] w (VerPost vs t w) := by
  have HN := Lib.hid hn
  have hge := Nat.le_of_eq hn
  have hle := Nat.le_of_eq hn.symm
  have HS := Lib.hid h
  have hs0 : VerRel vs t w (((w.alloc (.cells #[.string key, .slice A n c] 81)).alloc (.cells #[.int .i64 0, .string ⟨#[]⟩, .bool false] 83)).alloc (.cells #[.int .i64 0, .string ⟨#[]⟩, .bool false] 83)) 0 (.bool false) := by
    refine VerRel.start vs t w _ ?_ ?_ (below3 _ _ _ _)
    · have := heap_alloc_new ((w.alloc (.cells #[.string key, .slice A n c] 81)).alloc (.cells #[.int .i64 0, .string ⟨#[]⟩, .bool false] 83)) (.cells #[.int .i64 0, .string ⟨#[]⟩, .bool false] 83)
      simpa using this
    · have := heap_alloc_new (w.alloc (.cells #[.string key, .slice A n c] 81)) (.cells #[.int .i64 0, .string ⟨#[]⟩, .bool false] 83)
      exact (Below.heap_alloc _ _ _ (by simp)).trans (by simpa using this)
  have HS0 := Lib.hid hs0
  clear hn h hs0
  go_enter Try.func108, Try.ntmps108
  go_wp2
  go_loopw [7, 13] (fun v i wr => ∃ k : Nat, k ≤ n ∧ i = .int .i64 k ∧ VerRel vs t w wr k v) (fun _ i _ => n - (intOf i).toNat)
  case atStart => exact ⟨0, by omega, rfl, HS0.out⟩
  case round =>
    obtain ⟨k, hk, rfl, ⟨a, s, g, m, rfl, hva, hem, h2, h1, hb⟩⟩ := hrel
    have HVA := Lib.hid hva
    have HEM := Lib.hid hem
    clear hva hem
    have hsz := lt_blk h2
    by_cases hlt : k < n
    · obtain ⟨b, off, rfl, hbB, hc⟩ := HS.out.get (by omega)
      obtain ⟨hc0, hc1, hc2⟩ := hc k (by omega)
      have c0 := (hb.cell (p := ⟨b, off + k * 3, none⟩) (Nat.lt_of_lt_of_le hbB hB)).trans hc0
      have c1 := (hb.cell (p := ⟨b, off + k * 3 + 1, none⟩) (Nat.lt_of_lt_of_le hbB hB)).trans hc1
      have c2 := (hb.cell (p := ⟨b, off + k * 3 + 2, none⟩) (Nat.lt_of_lt_of_le hbB hB)).trans hc2
      have HT := Lib.hid (verAt_take vs t k (by omega))
      obtain ⟨y, hy⟩ : ∃ y, y = vs[k]'(by omega) := ⟨_, rfl⟩
      rw [← hy] at c0 c1 c2 HT
      obtain ⟨t1, s1, g1⟩ := y
      simp only at c0 c1 c2 HT
      have hw1 := below1 wr (.cells #[.int .i64 t1, .string s1, .bool g1] 83)
      have HB1 := Lib.hid (hb.trans (hw1.mono hb.size))
      have h2' := (hw1.block _ hsz).trans h2
      have h1' := (hw1.block _ (lt_blk h1)).trans h1
      have q0 := cell_blk (i := 0) h2 rfl
      have q1 := cell_blk (i := 1) h2 rfl
      have q2 := cell_blk (i := 2) h2 rfl
      have f0 := free_blk h2 0
      have f1 := free_blk h2 1
      have f2 := free_blk h2 2
      have HBr := Lib.hid hb
      have H1r := Lib.hid h1
      have H2r := Lib.hid h2
      have H2 := Lib.hid h2'
      have H1 := Lib.hid h1'
      clear hc hc0 hc1 hc2 hy hb hw1 h1 h2 h1' h2'
      by_cases htt : t1 ≤ t
      · have HR := Lib.hid (show VerRel vs t w ((((wr.setCell ⟨w.heap.size + 1 + 1, 0, none⟩ (.int .i64 t1)).setCell ⟨w.heap.size + 1 + 1, 1, none⟩ (.string s1)).setCell ⟨w.heap.size + 1 + 1, 2, none⟩ (.bool g1)).alloc (.cells #[.int .i64 t1, .string s1, .bool g1] 83)) (k + 1) (.bool true) from by
          refine ⟨t1, s1, g1, true, rfl, by rw [HT.out]; simp [htt], fun h => (by cases h), ?_, ?_, (((HBr.out.setCell (by simp; omega) _).setCell (by simp; omega) _).setCell (by simp; omega) _).alloc (by simpa [World.setCell] using HBr.out.size) _⟩
          · refine (Below.heap_alloc _ _ _ (by simpa [World.setCell] using hsz)).trans ?_
            simp [World.setCell, Array.getElem?_modify, H2r.out]
          · refine (Below.heap_alloc _ _ _ (by simp [World.setCell]; omega)).trans ?_
            have := H1r.out
            simp only [World.setCell, Array.getElem?_modify]
            simpa using this)
        go_wp2
        go_roundw
        case rel => exact ⟨k + 1, by omega, by go_num, HR.out⟩
        case measure => simp [intOf]; omega
      · have HR := Lib.hid (show VerRel vs t w (wr.alloc (.cells #[.int .i64 t1, .string s1, .bool g1] 83)) (k + 1) (.bool m) from
          ⟨a, s, g, m, rfl, by rw [HT.out, if_neg htt]; exact HVA.out, HEM.out, H2.out, H1.out, HB1.out⟩)
        go_wp2
        go_roundw
        case rel => exact ⟨k + 1, by omega, by go_num, HR.out⟩
        case measure => simp [intOf]; omega
    · have q0 := cell_blk (i := 0) h2 rfl
      have q1 := cell_blk (i := 1) h2 rfl
      have q2 := cell_blk (i := 2) h2 rfl
      have r0 := cell_blk (i := 0) h1 rfl
      have r1 := cell_blk (i := 1) h1 rfl
      have r2 := cell_blk (i := 2) h1 rfl
      have f0 := free_blk h1 0
      have f1 := free_blk h1 1
      have f2 := free_blk h1 2
      have hva := HVA.out
      rw [List.take_of_length_le (by omega)] at hva
      have HV := Lib.hid hva
      have HB := Lib.hid hb
      clear hva hb h1 h2
      go_wp2
      exact bodyPost_ret (v := .tuple #[.agg #[.int .i64 a, .string s, .bool g], .bool m]) (by simp [results, Try.results108, go_sem, *]) rfl ⟨a, s, g, m, rfl, HV.out, HEM.out, ((HB.out.setCell (by simp) _).setCell (by simp) _).setCell (by simp) _⟩

/-- What a look at a key gives. -/
def lookC (cs : List (ByteArray × List (Int × ByteArray × Bool))) (key : ByteArray) (t : Int) : ByteArray × Bool := lookV ((findC cs key).getD []) t
theorem lookC_none {cs : List (ByteArray × List (Int × ByteArray × Bool))} {key : ByteArray} {t : Int} (h : findC cs key = none) : lookC cs key t = (⟨#[]⟩, false) := by unfold lookC; rw [h]; rfl
theorem lookC_some {cs : List (ByteArray × List (Int × ByteArray × Bool))} {key : ByteArray} {t : Int} {vs : List (Int × ByteArray × Bool)} (h : findC cs key = some vs) : lookC cs key t = lookV vs t := by unfold lookC; rw [h]; rfl
theorem ret_look {p : ByteArray × Bool} {s : ByteArray} {b : Bool} (h : p = (s, b)) : Ending.returned (.tuple #[.string s, .bool b]) = .returned (.tuple #[.string p.1, .bool p.2]) := by rw [h]

set_option maxRecDepth 100000 in
set_option maxHeartbeats 1000000 in
theorem l3Look_any (A : Option Addr) (n c : Nat) (hs : List (ByteArray × Option Addr × Nat × List (Int × ByteArray × Bool))) (key : ByteArray) (t : Int) (B : Nat) (w : World) (hn : hs.length = n) (h : CellsB w B A hs) (hB : B ≤ w.heap.size) (hm : HSmall hs) :
    Calls Try.prog 73 #[.slice A n c, .string key, .int .i64 t] w fun e w' => e = .returned (.tuple #[.string (lookC (hs.map dat) key t).1, .bool (lookC (hs.map dat) key t).2]) ∧ Below w.heap.size w w' := by
  have hnl : n ≤ 1048576 := by rw [← hn]; exact hm.1
  have HN := Lib.hid hn
  have hge := Nat.le_of_eq hn
  have hle := Nat.le_of_eq hn.symm
  have HS := Lib.hid h
  have HM := Lib.hid hm.2
  have HC := Lib.hid (l3At_any A n c hs key B w hn h hB hnl)
  have HR := Lib.hid (fun s b (h : lookC (hs.map dat) key t = (s, b)) => ret_look h)
  obtain ⟨p, hp⟩ : ∃ p, p = lookC (hs.map dat) key t := ⟨_, rfl⟩
  have HPE := Lib.hid hp
  rw [← hp] at HR ⊢
  clear hn h hm hp
  go_enter Try.func73, Try.ntmps73
  go_wp2_with fail
  refine HC.out.mono ?_
  rintro e w4 ⟨h4, hb4⟩
  rcases h4 with ⟨k, hk, rfl, hkey, hf⟩ | ⟨rfl, hf⟩
  · obtain ⟨b, off, rfl, hbB, hc⟩ := HS.out.get (by omega)
    obtain ⟨hc0, hc1⟩ := hc k (by omega)
    have c0 := (hb4.cell (p := ⟨b, off + k * 2, none⟩) (Nat.lt_of_lt_of_le hbB hB)).trans hc0
    have c1 := (hb4.cell (p := ⟨b, off + k * 2 + 1, none⟩) (Nat.lt_of_lt_of_le hbB hB)).trans hc1
    have hv := (HS.out.vers k hk).below (hb4.mono hB)
    have hsm := (HM.out _ (List.getElem_mem hk)).2.1
    obtain ⟨y, hy⟩ : ∃ y, y = hs[k]'hk := ⟨_, rfl⟩
    rw [← hy] at c0 c1 hv hf hsm
    obtain ⟨s1, ad, cp, vs⟩ := y
    simp only at c0 c1 hv hf hsm
    have HV := Lib.hid (l3Ver_any s1 ad vs.length cp vs t B w4 rfl hv (Nat.le_trans hB hb4.size) hsm)
    have HF := Lib.hid hf
    have hk0 : (0 : Int) ≤ (k : Int) := by omega
    have hkn : (k : Int) < (n : Int) := by omega
    have HB4 := Lib.hid hb4
    clear hc hc0 hc1 hy hb4 hf hkey hv hsm
    go_wp2_with fail
    refine HV.out.mono ?_
    rintro e w5 ⟨a, s, g, m, rfl, hva, hem, hb5⟩
    have HB5 := Lib.hid (HB4.out.trans (hb5.mono HB4.out.size))
    have hw6 := below1 w5 (.cells #[.int .i64 a, .string s, .bool g] 83)
    have HB6 := Lib.hid (HB5.out.trans (hw6.mono HB5.out.size))
    have HVA := Lib.hid hva
    have HEM := Lib.hid hem
    clear hb5 hva hem hw6
    cases m with
    | true =>
      have HRR := Lib.hid (HR.out s (!g) (by rw [HPE.out, lookC_some HF.out]; unfold lookV; rw [HVA.out]; rfl))
      go_wp2_with fail
      go_quiet (fail)
      go_wp2
      go_ret2
      exact ⟨HRR.out, below_drewN HB6.out _⟩
    | false =>
      have HRR := Lib.hid (HR.out s false (by rw [HPE.out, lookC_some HF.out, HEM.out rfl]; unfold lookV; rw [HVA.out] <;> rfl))
      go_wp2_with fail
      go_quiet (fail)
      go_wp2
      go_ret2
      exact ⟨HRR.out, below_drewN HB6.out _⟩
  · have HRR := Lib.hid (HR.out ⟨#[]⟩ false (by rw [HPE.out]; exact lookC_none hf))
    clear hf
    go_wp2
    go_ret2
    exact ⟨HRR.out, hb4⟩

/-- What CellAt hands back. -/
def caOk (cs : List (ByteArray × List (Int × ByteArray × Bool))) (key : ByteArray) (t : Int) : Bool := csB cs && (keyB key && inB t 0 100000)
def caV (cs : List (ByteArray × List (Int × ByteArray × Bool))) (key : ByteArray) (t : Int) : ByteArray × Bool := if caOk cs key t then lookC cs key t else (⟨#[]⟩, false)
def CaRet (cs : List (ByteArray × List (Int × ByteArray × Bool))) (key : ByteArray) (t : Int) : Ending := .returned (.tuple #[.string (caV cs key t).1, .bool (caV cs key t).2, .bool (caOk cs key t)])
theorem ca_no {cs : List (ByteArray × List (Int × ByteArray × Bool))} {key : ByteArray} {t : Int} (h : caOk cs key t = false) : Ending.returned (.tuple #[.string ⟨#[]⟩, .bool false, .bool false]) = CaRet cs key t := by unfold CaRet caV; rw [h]; rfl
theorem ca_yes {cs : List (ByteArray × List (Int × ByteArray × Bool))} {key : ByteArray} {t : Int} {s : ByteArray} {b : Bool} (h : caOk cs key t = true) (hz : lookC cs key t = (s, b)) : Ending.returned (.tuple #[.string s, .bool b, .bool true]) = CaRet cs key t := by unfold CaRet caV; rw [h, if_pos rfl, hz]

set_option maxRecDepth 100000 in
set_option maxHeartbeats 1000000 in
theorem specCellAt_any (A : Option Addr) (n c : Nat) (hs : List (ByteArray × Option Addr × Nat × List (Int × ByteArray × Bool))) (key : ByteArray) (t : Int) (B : Nat) (w : World) (hn : hs.length = n) (h : CellsB w B A hs) (hB : B ≤ w.heap.size) (hm : HSmall hs) (hk : key.size ≤ 1048576) :
    Calls Try.prog 27 #[.slice A n c, .string key, .int .i64 t] w fun e w' => e = CaRet (hs.map dat) key t ∧ Below w.heap.size w w' := by
  have HG := Lib.hid (l3Good_any A n c hs B w hn h hB hm)
  have HK := Lib.hid (fun W => l3Key_any key W hk)
  have HI := Lib.hid (fun W => l2True_any t W)
  have HC := Lib.hid (fun W (hW : Below w.heap.size w W) => l3Look_any A n c hs key t B W hn (h.below (hW.mono hB)) (Nat.le_trans hB hW.size) hm)
  have HNO := Lib.hid (fun h => ca_no (cs := hs.map dat) (key := key) (t := t) h)
  have HYES := Lib.hid (fun h => ca_yes (cs := hs.map dat) (key := key) (t := t) (s := (lookC (hs.map dat) key t).1) (b := (lookC (hs.map dat) key t).2) h rfl)
  clear hn h hm
  cases h1 : csB (hs.map dat) with
  | false =>
    rw [h1] at HG
    have HR := Lib.hid (HNO.out (by simp [caOk, h1]))
    clear h1
    go_enter Try.func27, Try.ntmps27
    go_wp2_with fail
    refine HG.out.mono ?_
    rintro e w4 ⟨rfl, hb4⟩
    go_wp2
    exact bodyPost_ret (v := .tuple #[.string ⟨#[]⟩, .bool false, .bool false]) (by simp [results, Try.results27, go_sem]) rfl ⟨HR.out, hb4⟩
  | true =>
    rw [h1] at HG
    have HG1 := Lib.hid h1
    clear h1
    cases h2 : keyB key with
    | false =>
      rw [h2] at HK
      have HR := Lib.hid (HNO.out (by simp [caOk, h2]))
      clear h2
      go_enter Try.func27, Try.ntmps27
      go_wp2_with fail
      refine HG.out.mono ?_
      rintro e w4 ⟨rfl, hb4⟩
      go_wp2_with fail
      refine (HK.out _).mono ?_
      rintro e w5 ⟨rfl, q, rfl⟩
      go_wp2
      exact bodyPost_ret (v := .tuple #[.string ⟨#[]⟩, .bool false, .bool false]) (by simp [results, Try.results27, go_sem]) rfl ⟨HR.out, below_drewN hb4 _⟩
    | true =>
      rw [h2] at HK
      have HK1 := Lib.hid h2
      clear h2
      cases h3 : inB t 0 100000 with
      | false =>
        rw [h3] at HI
        have HR := Lib.hid (HNO.out (by simp [caOk, h3]))
        clear h3
        go_enter Try.func27, Try.ntmps27
        go_wp2_with fail
        refine HG.out.mono ?_
        rintro e w4 ⟨rfl, hb4⟩
        go_wp2_with fail
        refine (HK.out _).mono ?_
        rintro e w5 ⟨rfl, q, rfl⟩
        go_wp2_with fail
        refine (HI.out _).mono ?_
        rintro e w6 ⟨rfl, rfl⟩
        go_wp2
        exact bodyPost_ret (v := .tuple #[.string ⟨#[]⟩, .bool false, .bool false]) (by simp [results, Try.results27, go_sem]) rfl ⟨HR.out, below_drewN hb4 _⟩
      | true =>
        rw [h3] at HI
        have HR := Lib.hid (HYES.out (by simp [caOk, HG1.out, HK1.out, h3]))
        obtain ⟨s, hs'⟩ : ∃ s, s = (lookC (hs.map dat) key t).1 := ⟨_, rfl⟩
        obtain ⟨b, hb'⟩ : ∃ b, b = (lookC (hs.map dat) key t).2 := ⟨_, rfl⟩
        rw [← hs', ← hb'] at HR HC
        clear h3 hs' hb'
        go_enter Try.func27, Try.ntmps27
        go_wp2_with fail
        refine HG.out.mono ?_
        rintro e w4 ⟨rfl, hb4⟩
        go_wp2_with fail
        refine (HK.out _).mono ?_
        rintro e w5 ⟨rfl, q, rfl⟩
        have HB5 := Lib.hid (below_drewN hb4 q)
        go_wp2_with fail
        refine (HI.out _).mono ?_
        rintro e w6 ⟨rfl, rfl⟩
        go_wp2_with fail
        refine (HC.out _ HB5.out).mono ?_
        rintro e w6 ⟨rfl, hb6⟩
        have HB6 := Lib.hid (HB5.out.trans (hb6.mono HB5.out.size))
        clear hb6 hb4
        go_wp2
        exact bodyPost_ret (v := .tuple #[.string s, .bool b, .bool true]) (by simp [results, Try.results27, go_sem]) rfl ⟨HR.out, HB6.out⟩

set_option maxRecDepth 100000 in
set_option maxHeartbeats 1000000 in
theorem cellAt_any (A : Option Addr) (n c : Nat) (hs : List (ByteArray × Option Addr × Nat × List (Int × ByteArray × Bool))) (key : ByteArray) (t : Int) (B : Nat) (w : World) (hn : hs.length = n) (h : CellsB w B A hs) (hB : B ≤ w.heap.size) (hm : HSmall hs) (hk : key.size ≤ 1048576) :
    Calls Try.prog 24 #[.slice A n c, .string key, .int .i64 t] w fun e w' => e = CaRet (hs.map dat) key t ∧ Below w.heap.size w w' := by
  have HG := Lib.hid (goodCells_any A n c hs B w hn h hB hm)
  have HK := Lib.hid (fun W => goodKey_any key W hk)
  have HI := Lib.hid (fun W => isTrueTime_any t W)
  have HS := Lib.hid h
  have HM := Lib.hid hm.2
  have HNO := Lib.hid (fun h => ca_no (cs := hs.map dat) (key := key) (t := t) h)
  have HYES := Lib.hid (fun h s b => ca_yes (cs := hs.map dat) (key := key) (t := t) (s := s) (b := b) h)
  have HN := Lib.hid hn
  have HSM := Lib.hid hm
  have hge := Nat.le_of_eq hn
  clear hm
  cases h1 : csB (hs.map dat) with
  | false =>
    rw [h1] at HG
    have HR := Lib.hid (HNO.out (by simp [caOk, h1]))
    clear h1
    go_enter Try.func24, Try.ntmps24
    go_wp2_with fail
    refine HG.out.mono ?_
    rintro e w4 ⟨rfl, hb4⟩
    go_wp2
    exact bodyPost_ret (v := .tuple #[.string ⟨#[]⟩, .bool false, .bool false]) (by simp [results, Try.results24, go_sem]) rfl ⟨HR.out, hb4⟩
  | true =>
    rw [h1] at HG
    have HG1 := Lib.hid h1
    have HC := Lib.hid (fun W (hW : Below w.heap.size w W) => findCell_any A n c hs key B W hn (h.below (hW.mono hB)) (Nat.le_trans hB hW.size) (by rw [← HN.out]; exact HSM.out.1) (csB_true h1).1)
    clear h h1
    cases h2 : keyB key with
    | false =>
      rw [h2] at HK
      have HR := Lib.hid (HNO.out (by simp [caOk, h2]))
      clear h2
      go_enter Try.func24, Try.ntmps24
      go_wp2_with fail
      refine HG.out.mono ?_
      rintro e w4 ⟨rfl, hb4⟩
      go_wp2_with fail
      refine (HK.out _).mono ?_
      rintro e w5 ⟨rfl, rfl⟩
      go_wp2
      exact bodyPost_ret (v := .tuple #[.string ⟨#[]⟩, .bool false, .bool false]) (by simp [results, Try.results24, go_sem]) rfl ⟨HR.out, hb4⟩
    | true =>
      rw [h2] at HK
      have HK1 := Lib.hid h2
      clear h2
      cases h3 : inB t 0 100000 with
      | false =>
        rw [h3] at HI
        have HR := Lib.hid (HNO.out (by simp [caOk, h3]))
        clear h3
        go_enter Try.func24, Try.ntmps24
        go_wp2_with fail
        refine HG.out.mono ?_
        rintro e w4 ⟨rfl, hb4⟩
        go_wp2_with fail
        refine (HK.out _).mono ?_
        rintro e w5 ⟨rfl, rfl⟩
        go_wp2_with fail
        refine (HI.out _).mono ?_
        rintro e w6 ⟨rfl, rfl⟩
        go_wp2
        exact bodyPost_ret (v := .tuple #[.string ⟨#[]⟩, .bool false, .bool false]) (by simp [results, Try.results24, go_sem]) rfl ⟨HR.out, hb4⟩
      | true =>
        rw [h3] at HI
        have HR := Lib.hid (HYES.out (by simp [caOk, HG1.out, HK1.out, h3]))
        clear h3
        go_enter Try.func24, Try.ntmps24
        go_wp2_with fail
        refine HG.out.mono ?_
        rintro e w4 ⟨rfl, hb4⟩
        go_wp2_with fail
        refine (HK.out _).mono ?_
        rintro e w5 ⟨rfl, rfl⟩
        have HB5 := Lib.hid hb4
        clear hb4
        go_wp2_with fail
        refine (HI.out _).mono ?_
        rintro e w6 ⟨rfl, rfl⟩
        go_wp2_with fail
        refine (HC.out _ HB5.out).mono ?_
        rintro e w6 ⟨i, f, rfl, hf, hb6⟩
        have HB6 := Lib.hid (HB5.out.trans (hb6.mono HB5.out.size))
        clear hb6
        cases f with
        | false =>
          have HRN := Lib.hid (HR.out ⟨#[]⟩ false (lookC_none (hf.no (csB_true HG1.out).1)))
          clear hf
          go_wp2
          exact bodyPost_ret (v := .tuple #[.string ⟨#[]⟩, .bool false, .bool true]) (by simp [results, Try.results24, go_sem]) rfl ⟨HRN.out, HB6.out⟩
        | true =>
          obtain ⟨hi, hkey, hfc⟩ := hf.yes
          obtain ⟨b, off, rfl, hbB, hc⟩ := HS.out.get (by omega)
          obtain ⟨hc0, hc1⟩ := hc i (by omega)
          have c1 := (HB6.out.cell (p := ⟨b, off + i * 2 + 1, none⟩) (Nat.lt_of_lt_of_le hbB hB)).trans hc1
          have hv := (HS.out.vers i hi).below (HB6.out.mono hB)
          have hup := (vsB_true ((csB_true HG1.out).2.2 i hi).2).2.1
          have hpk := good_pos HG1.out i hi
          obtain ⟨y, hy⟩ : ∃ y, y = hs[i]'hi := ⟨_, rfl⟩
          rw [← hy] at c1 hv hpk hfc hup
          obtain ⟨s1, ad, cp, vs⟩ := y
          simp only at c1 hv hpk hfc hup
          have HV := Lib.hid (valueAt_any ad vs.length cp B vs t w6 rfl hpk.2 hv (Nat.le_trans hB HB6.out.size) hup)
          have HL := Lib.hid (HR.out (lookV vs t).1 (lookV vs t).2 (lookC_some hfc))
          obtain ⟨s, hs'⟩ : ∃ s, s = (lookV vs t).1 := ⟨_, rfl⟩
          obtain ⟨g, hg'⟩ : ∃ g, g = (lookV vs t).2 := ⟨_, rfl⟩
          rw [← hs', ← hg'] at HL HV
          have hk0 : (0 : Int) ≤ (i : Int) := by omega
          have hkn : (i : Int) < (n : Int) := by omega
          clear hc hc0 hc1 hy hfc hkey hv hup hpk hf hs' hg'
          go_wp2_with fail
          refine HV.out.mono ?_
          rintro e w7 ⟨rfl, hb7⟩
          have HB7 := Lib.hid (HB6.out.trans (hb7.mono HB6.out.size))
          clear hb7
          go_wp2
          exact bodyPost_ret (v := .tuple #[.string s, .bool g, .bool true]) (by simp [results, Try.results24, go_sem]) rfl ⟨HL.out, HB7.out⟩
end Go.Proofs.Ytcefofgdbmnkdaa
