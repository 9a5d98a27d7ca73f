/-
  Contracts for the check of versions and cells: goodVers, GoodCells, l3Cell, l3Good.
-/
import Derived.Test.YtcefofgdbmnkdaaGoodW
import Derived.Test.YtcefofgdbmnkdaaBel
namespace Go.Proofs.Ytcefofgdbmnkdaa
open Go.RowKit CM
set_option linter.unusedVariables false

/-- The time before place k. -/
def BtIs (ks : List Int) (k : Nat) (v : Value) : Prop := ∃ bt : Int, v = .int .i64 bt ∧ ((k = 0 ∧ bt = 0) ∨ ∃ h : 0 < k ∧ k ≤ ks.length, bt = ks[k - 1]'(by omega))
theorem BtIs.zero (ks : List Int) : BtIs ks 0 (.int .i64 0) := ⟨_, rfl, .inl ⟨rfl, rfl⟩⟩
theorem BtIs.succ {ks : List Int} {k : Nat} {s : Int} (hk : k < ks.length) (h : s = ks[k]) : BtIs ks (k + 1) (.int .i64 s) := ⟨s, rfl, .inr ⟨⟨by omega, by omega⟩, by simp only [Nat.add_sub_cancel]; exact h⟩⟩

set_option maxRecDepth 100000 in
set_option maxHeartbeats 1000000 in
theorem goodVers_any (A : Option Addr) (n c : Nat) (vs : List (Int × ByteArray × Bool)) (B : Nat) (w : World) (hn : vs.length = n) (h : VersB w B A vs) (hB : B ≤ w.heap.size) (hm : VSmall vs) :
    Calls Try.prog 65 #[.slice A n c] w fun e w' => e = .returned (.bool (vsB vs)) ∧ Below w.heap.size w w' := by
  obtain ⟨hl, hms⟩ := hm
  have HN := Lib.hid hn
  have hge := Nat.le_of_eq hn
  have hle := Nat.le_of_eq hn.symm
  have HS := Lib.hid h
  have HM := Lib.hid hms
  clear hn h hms
  by_cases h1n : 1 ≤ n
  · by_cases h16 : n ≤ 16
    · go_enter Try.func65, Try.ntmps65
      go_wp2
      go_loopw [3, 16] (fun v i wr => ∃ k : Nat, k ≤ n ∧ i = .int .i64 k ∧ BtIs (vs.map Prod.fst) k v ∧ Hid (PreB (verB valB) tLt vs k) ∧ Below w.heap.size w wr) (fun _ i _ => n - (intOf i).toNat)
      case atStart => exact ⟨0, by omega, rfl, BtIs.zero _, PreB.zero, Below.refl _ _⟩
      case round =>
        obtain ⟨k, hk, rfl, ⟨bt, rfl, hbf⟩, HP, hb⟩ := hrel
        have HBf := Lib.hid hbf
        clear hbf
        by_cases hlt : k < n
        · obtain ⟨b, off, rfl, hbB, hc⟩ := HS.out.get (by omega)
          obtain ⟨hc0, hc1, hc2⟩ := hc k (by omega)
          have c0 := (hb.cell (p := ⟨b, off + k * 3, none⟩) (Nat.lt_of_lt_of_le hbB hB)).trans hc0
          have c1 := (hb.cell (p := ⟨b, off + k * 3 + 1, none⟩) (Nat.lt_of_lt_of_le hbB hB)).trans hc1
          have c2 := (hb.cell (p := ⟨b, off + k * 3 + 2, none⟩) (Nat.lt_of_lt_of_le hbB hB)).trans hc2
          have hsm := HM.out _ (List.getElem_mem (show k < vs.length by omega))
          obtain ⟨y, hy⟩ : ∃ y, y = vs[k]'(by omega) := ⟨_, rfl⟩
          rw [← hy] at c0 c1 c2 hsm
          have HY := Lib.hid hy
          obtain ⟨t1, s2, gb⟩ := y
          simp only at c0 c1 c2 hsm
          have HB := Lib.hid hb
          have HK := Lib.hid (fun W => isVerTime_any t1 W)
          have HCt := Lib.hid (fun W => goodContent_any s2 gb W hsm)
          have hw1 := below1 wr (.cells #[.int .i64 t1, .string s2, .bool gb] 83)
          have HB1 := Lib.hid (HB.out.trans (hw1.mono HB.out.size))
          clear hc hc0 hc1 hc2 hy hb hsm hw1
          cases h1 : inB t1 1 100000 with
          | false =>
            rw [h1] at HK
            have HNO := Lib.hid (ret_bool (vsB_item k (show k < vs.length by omega) (by rw [← HY.out, verB_eq]; simp [h1])).symm)
            clear h1
            go_wp2_with fail
            refine (HK.out _).mono ?_
            rintro e w4 ⟨rfl, rfl⟩
            go_wp2
            go_ret
            exact ⟨HNO.out, HB1.out⟩
          | true =>
            rw [h1] at HK
            have HK1 := Lib.hid h1
            have hpos := (inB_true h1).1
            clear h1
            go_wp2_with fail
            refine (HK.out _).mono ?_
            rintro e w4 ⟨rfl, rfl⟩
            by_cases h2 : bt < t1
            · have HL := Lib.hid h2
              cases h3 : contB s2 gb with
              | false =>
                rw [h3] at HCt
                have HNO := Lib.hid (ret_bool (vsB_item k (show k < vs.length by omega) (by rw [← HY.out, verB_eq]; simp [h3])).symm)
                clear h3
                go_wp2_with fail
                refine (HCt.out _).mono ?_
                rintro e w4 ⟨rfl, rfl⟩
                go_wp2
                go_ret
                exact ⟨HNO.out, HB1.out⟩
              | true =>
                rw [h3] at HCt
                have HP' := Lib.hid (HP.out.succ (show k < vs.length by omega) (by rw [← HY.out, verB_eq]; simp [HK1.out, h3]) (fun h0 => by
                  rcases HBf.out with ⟨hk0, _⟩ | ⟨⟨_, _⟩, hbf⟩
                  · omega
                  · rw [List.getElem_map] at hbf
                    unfold tLt; rw [← hbf, ← HY.out]; exact decide_eq_true HL.out))
                have HBf' := Lib.hid (BtIs.succ (ks := vs.map Prod.fst) (k := k) (s := t1) (by rw [List.length_map]; omega) (by rw [List.getElem_map, ← HY.out]))
                clear h3
                go_wp2_with fail
                refine (HCt.out _).mono ?_
                rintro e w4 ⟨rfl, rfl⟩
                go_wp2
                go_roundw
                case rel => exact ⟨k + 1, by omega, by go_num, HBf'.out, HP'.out, HB1.out⟩
                case measure => simp [intOf]; omega
            · have hno : vsB vs = false := by
                rcases HBf.out with ⟨hk0, hbf⟩ | ⟨⟨hk0, _⟩, hbf⟩
                · omega
                · rw [List.getElem_map] at hbf
                  exact vsB_up k (show k < vs.length by omega) hk0 (by rw [← hbf, ← HY.out]; exact h2)
              have HNO := Lib.hid (ret_bool hno.symm)
              clear hno
              go_wp2
              go_ret
              exact ⟨HNO.out, HB1.out⟩
        · have hkn : k = n := by omega
          have HYES := Lib.hid (ret_bool (vsB_mk (by rw [HN.out, ← hkn]; exact HP.out) (by omega) (by omega)).symm)
          clear hkn
          go_wp2
          go_ret
          exact ⟨HYES.out, hb⟩
    · have HNO := Lib.hid (ret_bool (vsB_long (vs := vs) (by omega)).symm)
      go_enter Try.func65, Try.ntmps65
      go_wp2
      go_ret
      exact ⟨HNO.out, Below.refl _ _⟩
  · have HNO := Lib.hid (ret_bool (vsB_long (vs := vs) (by omega)).symm)
    go_enter Try.func65, Try.ntmps65
    go_wp2
    go_ret
    exact ⟨HNO.out, Below.refl _ _⟩

set_option maxRecDepth 100000 in
set_option maxHeartbeats 2000000 in
theorem l3Cell_any (key : ByteArray) (A : Option Addr) (n c : Nat) (vs : List (Int × ByteArray × Bool)) (B : Nat) (w : World) (hn : vs.length = n) (h : VersB w B A vs) (hB : B ≤ w.heap.size) (hky : key.size ≤ 1048576) (hm : VSmall vs) :
    Calls Try.prog 101 #[.agg #[.string key, .slice A n c]] w fun e w' => e = .returned (.bool (keyB key && vsB vs)) ∧ Below w.heap.size w w' := by
  obtain ⟨hl, hms⟩ := hm
  have HN := Lib.hid hn
  have hge := Nat.le_of_eq hn
  have hle := Nat.le_of_eq hn.symm
  have HS := Lib.hid h
  have HM := Lib.hid hms
  have HBX := Lib.hid (heap_alloc_new w (.cells #[.string key, .slice A n c] 81))
  obtain ⟨r, hr⟩ : ∃ r, r = (keyB key && vsB vs) := ⟨_, rfl⟩
  have HRR := Lib.hid hr
  rw [← hr]
  clear hn h hms hr
  go_enter Try.func101, Try.ntmps101
  go_wp2
  go_loopw [8] (fun i wr => ∃ k : Nat, k ≤ n ∧ i = .int .i64 k ∧ Hid (PreB (verB valB) tLt vs k) ∧ Hid (0 < k → keyB key = true) ∧ wr.heap[w.heap.size]? = some (.cells #[.string key, .slice A n c] 81 (0, 0)) ∧ Below w.heap.size w wr) (fun i _ => n - (intOf i).toNat)
  case atStart => exact ⟨0, by omega, rfl, PreB.zero, fun h => absurd h (by omega), HBX.out, below1 _ _⟩
  case round =>
    obtain ⟨k, hk, rfl, HP, HK0, hbx, hb⟩ := hrel
    have x0 := cell_blk (i := 0) hbx rfl
    have x1 := cell_blk (i := 1) hbx rfl
    have hxs := lt_blk hbx
    by_cases hlt : k < n
    · obtain ⟨b, off, rfl, hbB, hc⟩ := HS.out.get (by omega)
      have HAll := Lib.hid hc
      obtain ⟨hc0, hc1, hc2⟩ := hc k (by omega)
      have c0 := (hb.cell (p := ⟨b, off + k * 3, none⟩) (Nat.lt_of_lt_of_le hbB hB)).trans hc0
      have c1 := (hb.cell (p := ⟨b, off + k * 3 + 1, none⟩) (Nat.lt_of_lt_of_le hbB hB)).trans hc1
      have c2 := (hb.cell (p := ⟨b, off + k * 3 + 2, none⟩) (Nat.lt_of_lt_of_le hbB hB)).trans hc2
      have hsm := HM.out _ (List.getElem_mem (show k < vs.length by omega))
      obtain ⟨y, hy⟩ : ∃ y, y = vs[k]'(by omega) := ⟨_, rfl⟩
      rw [← hy] at c0 c1 c2 hsm
      have HY := Lib.hid hy
      obtain ⟨t1, s2, gb⟩ := y
      simp only at c0 c1 c2 hsm
      have hbs : b < wr.heap.size := Nat.lt_of_lt_of_le hbB (Nat.le_trans hB hb.size)
      have HB := Lib.hid hb
      have HT := Lib.hid (fun W => (l3Time_any t1 W).mono (R' := fun e w' => e = .returned (.bool (inB t1 1 100000)) ∧ w' = W) fun _ _ h => ⟨h.1, h.2.symm⟩)
      have HW := Lib.hid (fun W => l3Write_any key s2 gb W hky hsm)
      have hw1 := below1 wr (.cells #[.int .i64 t1, .string s2, .bool gb] 83)
      have HB1 := Lib.hid (HB.out.trans (hw1.mono HB.out.size))
      have HBX1 := Lib.hid ((hw1.block _ hxs).trans hbx)
      clear hc hc0 hc1 hc2 hy hb hsm hw1 hbx
      cases h1 : inB t1 1 100000 with
      | false =>
        rw [h1] at HT
        have HNO := Lib.hid (ret_bool (show false = r by rw [HRR.out, vsB_item k (show k < vs.length by omega) (by rw [← HY.out, verB_eq]; simp [h1]), Bool.and_false]))
        clear h1
        go_wp2_with fail
        go_quiet ((go_at_call 63; exact Calls.quiet_of_same (HT.out _)))
        go_wp2
        go_ret
        exact ⟨HNO.out, below_drewN HB1.out _⟩
      | true =>
        rw [h1] at HT
        have HK1 := Lib.hid h1
        clear h1
        cases h2 : wrB key s2 gb with
        | false =>
          rw [h2] at HW
          have hno : r = false := by
            rw [HRR.out]
            simp only [wrB, Bool.and_eq_false_iff] at h2
            rcases h2 with h2 | h2
            · rw [h2]; rfl
            · rw [vsB_item k (show k < vs.length by omega) (by rw [← HY.out, verB_eq]; simp [h2]), Bool.and_false]
          have HNO := Lib.hid (ret_bool hno.symm)
          clear h2 hno
          go_wp2_with fail
          go_quiet (first | (go_at_call 63; exact Calls.quiet_of_same (HT.out _)) | (go_at_call 102; exact Calls.quiet_of (HW.out _)))
          go_wp2
          go_ret
          exact ⟨HNO.out, below_drewN HB1.out _⟩
        | true =>
          rw [h2] at HW
          have hkc : keyB key = true ∧ contB s2 gb = true := by simpa [wrB] using h2
          have HKK := Lib.hid (fun _ : 0 < k + 1 => hkc.1)
          have HIt := Lib.hid (show verB valB (vs[k]'(by omega)) = true by rw [← HY.out, verB_eq]; simp [HK1.out, hkc.2])
          clear h2 hkc
          rcases Nat.eq_zero_or_pos k with h0 | h0
          · subst h0
            simp only [Nat.zero_mul, Nat.add_zero] at c0 c1 c2
            have HP' := Lib.hid (HP.out.succ (show 0 < vs.length by omega) HIt.out (fun h0 => by omega))
            go_wp2_with fail
            go_quiet (first | (go_at_call 63; exact Calls.quiet_of_same (HT.out _)) | (go_at_call 102; exact Calls.quiet_of (HW.out _)))
            go_wp2
            go_roundw
            case rel => exact ⟨1, by omega, by go_num, HP'.out, HKK.out, HBX1.out, below_drewN HB1.out _⟩
            case measure => simp [intOf]; omega
          · obtain ⟨q, rfl⟩ : ∃ q, k = q + 1 := ⟨k - 1, by omega⟩
            have hd0 := (HB.out.cell (p := ⟨b, off + q * 3, none⟩) (Nat.lt_of_lt_of_le hbB hB)).trans (HAll.out q (by omega)).1
            obtain ⟨x, hx⟩ : ∃ x, x = (vs[q]'(by omega)).1 := ⟨_, rfl⟩
            rw [← hx] at hd0
            have HX := Lib.hid hx
            have hq0 : (0 : Int) ≤ (q : Int) := by omega
            have hqn : (q : Int) < (n : Int) := by omega
            have hpos : decide ((0 : Int) < (q : Int) + 1) = true := decide_eq_true (by omega)
            clear hx h0
            by_cases h3 : x < t1
            · have HP' := Lib.hid (HP.out.succ (show q + 1 < vs.length by omega) HIt.out (fun h0 => by simp only [Nat.add_sub_cancel]; unfold tLt; rw [← HX.out, ← HY.out]; exact decide_eq_true h3))
              have h4 : decide (t1 ≤ x) = false := decide_eq_false (by omega)
              go_wp2_with fail
              go_quiet (first | (go_at_call 63; exact Calls.quiet_of_same (HT.out _)) | (go_at_call 102; exact Calls.quiet_of (HW.out _)))
              go_wp2
              go_roundw
              case rel => exact ⟨q + 1 + 1, by omega, by go_num, HP'.out, HKK.out, HBX1.out, below_drewN HB1.out _⟩
              case measure => simp [intOf]; omega
            · have HNO := Lib.hid (ret_bool (show false = r by rw [HRR.out, vsB_up (q + 1) (show q + 1 < vs.length by omega) (by omega) (by simp only [Nat.add_sub_cancel]; rw [← HX.out, ← HY.out]; exact h3), Bool.and_false]))
              have h4 : decide (t1 ≤ x) = true := decide_eq_true (by omega)
              go_wp2_with fail
              go_quiet (first | (go_at_call 63; exact Calls.quiet_of_same (HT.out _)) | (go_at_call 102; exact Calls.quiet_of (HW.out _)))
              go_wp2
              go_ret
              exact ⟨HNO.out, below_drewN HB1.out _⟩
    · have hkn : k = n := by omega
      subst hkn
      have HKy := Lib.hid (fun W => l3Key_any key W hky)
      have HI := Lib.hid (fun W => l1In_any (k : Int) 1 16 W)
      have HB := Lib.hid hb
      clear hb
      cases h1 : keyB key with
      | false =>
        rw [h1] at HKy
        have HNO := Lib.hid (ret_bool (show false = r by rw [HRR.out, h1]; rfl))
        clear h1
        go_wp2_with fail
        refine (HKy.out _).mono ?_
        rintro e w4 ⟨rfl, m, rfl⟩
        go_wp2
        go_ret
        exact ⟨HNO.out, below_drewN HB.out _⟩
      | true =>
        rw [h1] at HKy
        have HK1 := Lib.hid h1
        clear h1
        by_cases h5 : 1 ≤ k ∧ k ≤ 16
        · rw [inB_mk (by omega)] at HI
          have HYES := Lib.hid (ret_bool (show true = r by rw [HRR.out, HK1.out, vsB_mk (by rw [HN.out]; exact HP.out) (by omega) (by omega)]; rfl))
          go_wp2_with fail
          refine (HKy.out _).mono ?_
          rintro e w4 ⟨rfl, m, rfl⟩
          go_wp2_with fail
          refine (HI.out _).mono ?_
          rintro e w5 ⟨rfl, rfl⟩
          go_wp2
          go_ret
          exact ⟨HYES.out, below_drewN HB.out _⟩
        · rw [inB_not (by omega)] at HI
          have HNO := Lib.hid (ret_bool (show false = r by rw [HRR.out, HK1.out, vsB_long (vs := vs) (by omega)]; rfl))
          go_wp2_with fail
          refine (HKy.out _).mono ?_
          rintro e w4 ⟨rfl, m, rfl⟩
          go_wp2_with fail
          refine (HI.out _).mono ?_
          rintro e w5 ⟨rfl, rfl⟩
          go_wp2
          go_ret
          exact ⟨HNO.out, below_drewN HB.out _⟩

theorem dat_map_at (hs : List (ByteArray × Option Addr × Nat × List (Int × ByteArray × Bool))) (k : Nat) (h : k < hs.length) : (hs.map dat)[k]'(by simpa using h) = (hs[k].1, hs[k].2.2.2) := by simp [dat]

set_option maxRecDepth 100000 in
set_option maxHeartbeats 1000000 in
theorem goodCells_any (A : Option Addr) (n c : Nat) (hs : List (ByteArray × Option Addr × Nat × List (Int × ByteArray × Bool))) (B : Nat) (w : World) (hn : hs.length = n) (h : CellsB w B A hs) (hB : B ≤ w.heap.size) (hm : HSmall hs) :
    Calls Try.prog 20 #[.slice A n c] w fun e w' => e = .returned (.bool (csB (hs.map dat))) ∧ Below w.heap.size w w' := by
  obtain ⟨hl, hms⟩ := hm
  have HN := Lib.hid hn
  have hge := Nat.le_of_eq hn
  have hle := Nat.le_of_eq hn.symm
  have HS := Lib.hid h
  have HM := Lib.hid hms
  obtain ⟨cs, hcs⟩ : ∃ cs, cs = hs.map dat := ⟨_, rfl⟩
  have hcl : cs.length = hs.length := by rw [hcs]; simp
  have hge2 := Nat.le_of_eq hcl
  have hle2 := Nat.le_of_eq hcl.symm
  have HCS := Lib.hid (fun (k : Nat) (h : k < hs.length) (h2 : k < cs.length) => show cs[k]'h2 = ((hs[k]'h).1, (hs[k]'h).2.2.2) by simp only [hcs]; exact dat_map_at hs k h)
  rw [← hcs]
  clear hn h hms hcs hcl
  by_cases h24 : n ≤ 24
  · go_enter Try.func20, Try.ntmps20
    go_wp2
    go_loopw [3, 11] (fun v i wr => ∃ k : Nat, k ≤ n ∧ i = .int .i64 k ∧ BfIs (cs.map Prod.fst) k v ∧ Hid (PreB (cellB keyB valB) cLt cs k) ∧ Below w.heap.size w wr) (fun _ i _ => n - (intOf i).toNat)
    case atStart => exact ⟨0, by omega, rfl, BfIs.zero _, PreB.zero, Below.refl _ _⟩
    case round =>
      obtain ⟨k, hk, rfl, ⟨bf, rfl, hbf⟩, HP, hb⟩ := hrel
      have HBf := Lib.hid hbf
      clear hbf
      by_cases hlt : k < n
      · obtain ⟨b, off, rfl, hbB, hc⟩ := HS.out.get (by omega)
        obtain ⟨hc0, hc1⟩ := hc k (by omega)
        have c0 := (hb.cell (p := ⟨b, off + k * 2, none⟩) (Nat.lt_of_lt_of_le hbB hB)).trans hc0
        have c1 := (hb.cell (p := ⟨b, off + k * 2 + 1, none⟩) (Nat.lt_of_lt_of_le hbB hB)).trans hc1
        have hsm := HM.out _ (List.getElem_mem (show k < hs.length by omega))
        have hv := (HS.out.vers k (by omega)).below (hb.mono hB)
        have hy := HCS.out k (by omega) (by omega)
        obtain ⟨y, hyy⟩ : ∃ y, y = hs[k]'(by omega) := ⟨_, rfl⟩
        rw [← hyy] at c0 c1 hsm hv hy
        obtain ⟨s1, ad, cp, vs⟩ := y
        simp only at c0 c1 hsm hv hy
        have HY := Lib.hid hy
        have HB := Lib.hid hb
        have HK := Lib.hid (fun W => goodKey_any s1 W hsm.1)
        have hw1 := below1 wr (.cells #[.string s1, .slice ad vs.length cp] 81)
        have HB1 := Lib.hid (HB.out.trans (hw1.mono HB.out.size))
        have HBX := Lib.hid (heap_alloc_new wr (.cells #[.string s1, .slice ad vs.length cp] 81))
        have HCt := Lib.hid (goodVers_any ad vs.length cp vs B _ rfl (hv.below (hw1.mono (Nat.le_trans hB hb.size))) (Nat.le_trans hB (Nat.le_trans hb.size hw1.size)) hsm.2)
        clear hc hc0 hc1 hy hyy hb hsm hw1 hv
        cases h1 : keyB s1 with
        | false =>
          rw [h1] at HK
          have HNO := Lib.hid (ret_bool (csB_item k (show k < cs.length by omega) (by rw [HY.out, cellB_eq]; simp [h1])).symm)
          clear h1
          go_wp2_with fail
          refine (HK.out _).mono ?_
          rintro e w4 ⟨rfl, rfl⟩
          go_wp2
          go_ret
          exact ⟨HNO.out, HB1.out⟩
        | true =>
          rw [h1] at HK
          have HK1 := Lib.hid h1
          clear h1
          go_wp2_with fail
          refine (HK.out _).mono ?_
          rintro e w4 ⟨rfl, rfl⟩
          cases h2 : kLt bf s1 with
          | false =>
            have hno : csB cs = false := by
              rcases HBf.out with ⟨hk0, hbf⟩ | ⟨⟨hk0, _⟩, hbf⟩
              · rw [hbf, empty_lt HK1.out] at h2; cases h2
              · rw [List.getElem_map] at hbf
                exact csB_up k (show k < cs.length by omega) hk0 (by rw [← hbf, HY.out]; exact h2)
            have HNO := Lib.hid (ret_bool hno.symm)
            have hcm := cmp_no h2
            clear hno h2
            rcases hcm with hcm | hcm
            · go_wp2
              go_ret
              exact ⟨HNO.out, HB1.out⟩
            · subst hcm
              go_wp2
              go_ret
              exact ⟨HNO.out, HB1.out⟩
          | true =>
            obtain ⟨hca, hcb⟩ := cmp_up h2
            have HL := Lib.hid h2
            clear h2
            cases h3 : vsB vs with
            | false =>
              rw [h3] at HCt
              have HNO := Lib.hid (ret_bool (csB_item k (show k < cs.length by omega) (by rw [HY.out, cellB_eq]; simp [h3])).symm)
              clear h3
              go_wp2_with fail
              refine HCt.out.mono ?_
              rintro e w4 ⟨rfl, hb4⟩
              have HB4 := Lib.hid (HB1.out.trans (hb4.mono HB1.out.size))
              clear hb4
              go_wp2
              go_ret
              exact ⟨HNO.out, HB4.out⟩
            | true =>
              rw [h3] at HCt
              have HP' := Lib.hid (HP.out.succ (show k < cs.length by omega) (by rw [HY.out, cellB_eq]; simp [HK1.out, h3]) (fun h0 => by
                rcases HBf.out with ⟨hk0, _⟩ | ⟨⟨_, _⟩, hbf⟩
                · omega
                · rw [List.getElem_map] at hbf
                  unfold cLt; rw [← hbf, HY.out]; exact HL.out))
              have HBf' := Lib.hid (BfIs.succ (ks := cs.map Prod.fst) (k := k) (s := s1) (by rw [List.length_map]; omega) (by rw [List.getElem_map, HY.out]))
              clear h3
              go_wp2_with fail
              refine HCt.out.mono ?_
              rintro e w4 ⟨rfl, hb4⟩
              have HB4 := Lib.hid (HB1.out.trans (hb4.mono HB1.out.size))
              have hbx := (hb4.block _ (lt_blk HBX.out)).trans HBX.out
              have x0 := cell_blk (i := 0) hbx rfl
              clear hb4 hbx
              go_wp2
              go_roundw
              case rel => exact ⟨k + 1, by omega, by go_num, HBf'.out, HP'.out, HB4.out⟩
              case measure => simp [intOf]; omega
      · have hkn : k = n := by omega
        have HYES := Lib.hid (ret_bool (csB_mk (cs := cs) (by rw [show cs.length = k by omega]; exact HP.out) (by omega)).symm)
        clear hkn
        go_wp2
        go_ret
        exact ⟨HYES.out, hb⟩
  · have HNO := Lib.hid (ret_bool (csB_long (cs := cs) (by omega)).symm)
    go_enter Try.func20, Try.ntmps20
    go_wp2
    go_ret
    exact ⟨HNO.out, Below.refl _ _⟩

set_option maxRecDepth 100000 in
set_option maxHeartbeats 2000000 in
theorem l3Good_any (A : Option Addr) (n c : Nat) (hs : List (ByteArray × Option Addr × Nat × List (Int × ByteArray × Bool))) (B : Nat) (w : World) (hn : hs.length = n) (h : CellsB w B A hs) (hB : B ≤ w.heap.size) (hm : HSmall hs) :
    Calls Try.prog 61 #[.slice A n c] w fun e w' => e = .returned (.bool (csB (hs.map dat))) ∧ Below w.heap.size w w' := by
  obtain ⟨hl, hms⟩ := hm
  have HN := Lib.hid hn
  have hge := Nat.le_of_eq hn
  have hle := Nat.le_of_eq hn.symm
  have HS := Lib.hid h
  have HM := Lib.hid hms
  obtain ⟨cs, hcs⟩ : ∃ cs, cs = hs.map dat := ⟨_, rfl⟩
  have hcl : cs.length = hs.length := by rw [hcs]; simp
  have hge2 := Nat.le_of_eq hcl
  have hle2 := Nat.le_of_eq hcl.symm
  have HCS := Lib.hid (fun (k : Nat) (h : k < hs.length) (h2 : k < cs.length) => show cs[k]'h2 = ((hs[k]'h).1, (hs[k]'h).2.2.2) by simp only [hcs]; exact dat_map_at hs k h)
  rw [← hcs]
  clear hn h hms hcs hcl
  go_enter Try.func61, Try.ntmps61
  go_wp2
  go_loopw [7] (fun i wr => ∃ k : Nat, k ≤ n ∧ i = .int .i64 k ∧ Hid (PreB (cellB keyB valB) cLt cs k) ∧ Below w.heap.size w wr) (fun i _ => n - (intOf i).toNat)
  case atStart => exact ⟨0, by omega, rfl, PreB.zero, Below.refl _ _⟩
  case round =>
    obtain ⟨k, hk, rfl, HP, hb⟩ := hrel
    by_cases hlt : k < n
    · obtain ⟨b, off, rfl, hbB, hc⟩ := HS.out.get (by omega)
      have HAll := Lib.hid hc
      obtain ⟨hc0, hc1⟩ := hc k (by omega)
      have c0 := (hb.cell (p := ⟨b, off + k * 2, none⟩) (Nat.lt_of_lt_of_le hbB hB)).trans hc0
      have c1 := (hb.cell (p := ⟨b, off + k * 2 + 1, none⟩) (Nat.lt_of_lt_of_le hbB hB)).trans hc1
      have hsm := HM.out _ (List.getElem_mem (show k < hs.length by omega))
      have hv := (HS.out.vers k (by omega)).below (hb.mono hB)
      have hy := HCS.out k (by omega) (by omega)
      obtain ⟨y, hyy⟩ : ∃ y, y = hs[k]'(by omega) := ⟨_, rfl⟩
      rw [← hyy] at c0 c1 hsm hv hy
      obtain ⟨s1, ad, cp, vs⟩ := y
      simp only at c0 c1 hsm hv hy
      have HY := Lib.hid hy
      have HB := Lib.hid hb
      have hw1 := below1 wr (.cells #[.string s1, .slice ad vs.length cp] 81)
      have hbs : b < (wr.alloc (.cells #[.string s1, .slice ad vs.length cp] 81)).heap.size := Nat.lt_of_lt_of_le hbB (Nat.le_trans hB (Nat.le_trans hb.size hw1.size))
      have hws : wr.heap.size < (wr.alloc (.cells #[.string s1, .slice ad vs.length cp] 81)).heap.size := by simp
      have HB1 := Lib.hid (HB.out.trans (hw1.mono HB.out.size))
      have hbx := heap_alloc_new wr (.cells #[.string s1, .slice ad vs.length cp] 81)
      have x0 := cell_blk (i := 0) hbx rfl
      have x1 := cell_blk (i := 1) hbx rfl
      have HCt := Lib.hid (fun p : BelT (wr.alloc (.cells #[.string s1, .slice ad vs.length cp] 81)) => l3Cell_any s1 ad vs.length cp vs B p.w rfl (hv.below ((hw1.trans (p.below.mono hw1.size)).mono (Nat.le_trans hB hb.size))) (Nat.le_trans hB (Nat.le_trans hb.size (Nat.le_trans hw1.size p.sz))) hsm.1 hsm.2)
      obtain ⟨W1, hW1⟩ : ∃ W1, W1 = wr.alloc (.cells #[.string s1, .slice ad vs.length cp] 81) := ⟨_, rfl⟩
      rw [← hW1] at x0 x1 hbs hws HB1 HCt
      have y0 := bel_cell x0 hws
      have y1 := bel_cell x1 hws
      have HW1 := Lib.hid hW1
      clear hc hc0 hc1 hy hyy hb hsm hw1 hbx hv
      cases h1 : (keyB s1 && vsB vs) with
      | false =>
        rw [h1] at HCt
        have HNO := Lib.hid (ret_bool (csB_item k (show k < cs.length by omega) (by rw [HY.out, cellB_eq]; exact h1)).symm)
        clear h1 hW1
        go_wp2_with fail
        rw [← HW1.out]
        refine bel_region (by kernel_rfl) (by kernel_rfl) ?_
        repeat (go_big_quiet_step ((go_at_call 101; exact bel_call (HCt.out _))))
        refine wpQuiet_nil ?_
        intro p
        have HB4 := Lib.hid (HB1.out.trans (p.below.mono HB1.out.size))
        go_wp2
        go_ret
        exact ⟨HNO.out, HB4.out⟩
      | true =>
        rw [h1] at HCt
        have HIt := Lib.hid (show cellB keyB valB (cs[k]'(by omega)) = true by rw [HY.out, cellB_eq]; exact h1)
        clear h1 hW1
        rcases Nat.eq_zero_or_pos k with h0 | h0
        · subst h0
          simp only [Nat.zero_mul, Nat.add_zero] at c0 c1
          have HP' := Lib.hid (HP.out.succ (show 0 < cs.length by omega) HIt.out (fun h0 => by omega))
          go_wp2_with fail
          rw [← HW1.out]
          refine bel_region (by kernel_rfl) (by kernel_rfl) ?_
          repeat (go_big_quiet_step ((go_at_call 101; exact bel_call (HCt.out _))))
          refine wpQuiet_nil ?_
          intro p
          have HB4 := Lib.hid (HB1.out.trans (p.below.mono HB1.out.size))
          go_wp2
          go_roundw
          case rel => exact ⟨1, by omega, by go_num, HP'.out, HB4.out⟩
          case measure => simp [intOf]; omega
        · obtain ⟨q, rfl⟩ : ∃ q, k = q + 1 := ⟨k - 1, by omega⟩
          have hq := (HAll.out q (by omega)).1
          have hqc := HCS.out q (by omega) (by omega)
          obtain ⟨x, hx⟩ : ∃ x, x = (hs[q]'(by omega)).1 := ⟨_, rfl⟩
          rw [← hx] at hq hqc
          have hz0 := bel_cell ((HB1.out.cell (p := ⟨b, off + q * 2, none⟩) (Nat.lt_of_lt_of_le hbB hB)).trans hq) hbs
          have HX := Lib.hid hqc
          have hq0 : (0 : Int) ≤ (q : Int) := by omega
          have hqn : (q : Int) < (n : Int) := by omega
          have hpos : decide ((0 : Int) < (q : Int) + 1) = true := decide_eq_true (by omega)
          clear hx h0 hq hqc
          cases h2 : kLt x s1 with
          | false =>
            have HNO := Lib.hid (ret_bool (csB_up (q + 1) (show q + 1 < cs.length by omega) (by omega) (by simp only [Nat.add_sub_cancel]; rw [HX.out, HY.out]; exact h2)).symm)
            have h3 : Op.bytesLess x.toList s1.toList = false := h2
            clear h2
            go_wp2_with fail
            rw [← HW1.out]
            refine bel_region (by kernel_rfl) (by kernel_rfl) ?_
            repeat (go_big_quiet_step ((go_at_call 101; exact bel_call (HCt.out _))))
            refine wpQuiet_nil ?_
            intro p
            have HB4 := Lib.hid (HB1.out.trans (p.below.mono HB1.out.size))
            go_wp2
            go_ret
            exact ⟨HNO.out, HB4.out⟩
          | true =>
            have HP' := Lib.hid (HP.out.succ (show q + 1 < cs.length by omega) HIt.out (fun h0 => by simp only [Nat.add_sub_cancel]; unfold cLt; rw [HX.out, HY.out]; exact h2))
            have h3 : Op.bytesLess x.toList s1.toList = true := h2
            clear h2
            go_wp2_with fail
            rw [← HW1.out]
            refine bel_region (by kernel_rfl) (by kernel_rfl) ?_
            repeat (go_big_quiet_step ((go_at_call 101; exact bel_call (HCt.out _))))
            refine wpQuiet_nil ?_
            intro p
            have HB4 := Lib.hid (HB1.out.trans (p.below.mono HB1.out.size))
            go_wp2
            go_roundw
            case rel => exact ⟨q + 1 + 1, by omega, by go_num, HP'.out, HB4.out⟩
            case measure => simp [intOf]; omega
    · have hkn : k = n := by omega
      subst hkn
      by_cases h24 : k ≤ 24
      · have HYES := Lib.hid (ret_bool (csB_mk (cs := cs) (by rw [show cs.length = k by omega]; exact HP.out) (by omega)).symm)
        have hd : decide ((k : Int) ≤ 24) = true := decide_eq_true (by omega)
        go_wp2
        go_ret
        exact ⟨HYES.out, hb⟩
      · have HNO := Lib.hid (ret_bool (csB_long (cs := cs) (by omega)).symm)
        have hd : decide ((k : Int) ≤ 24) = false := decide_eq_false (by omega)
        go_wp2
        go_ret
        exact ⟨HNO.out, hb⟩
end Go.Proofs.Ytcefofgdbmnkdaa
