/-
  The walk of the law FnSent.
-/
import Derived.Test.YtojplmjoipjabaaFsN
import Derived.Test.YtojplmjoipjabaaFnV
namespace Go.Proofs.Ytojplmjoipjabaa.Fs
open Go.RowKit Nt Fv
set_option linter.unusedVariables false
set_option linter.unusedSimpArgs false

/-- An empty row in a new block. -/
theorem nil_own (w : World) : OwnI (w.alloc (.cells #[] 3)) w.heap.size (w.alloc (.cells #[] 3)).heap.size (some ⟨w.heap.size, 0, none⟩) 0 [] :=
  .inr ⟨w.heap.size, #[], rfl, Nat.le_refl _, by simp, heap_alloc_new _ _, by simp, by unfold maxLen; omega, by simp, fun j hj => by simp at hj⟩
set_option maxRecDepth 100000 in
set_option maxHeartbeats 8000000 in
theorem sent_walk (w : World) (A : Option Addr) (n c : Nat) (l : List UInt8) (hn : l.length = n) (h : BytesAt w A l) (hm : n ≤ maxLen) :
    Calls Try.prog 8 #[.slice A n c] w fun e w' => e = .returned (.bool true) ∧ Below w.heap.size w w' := by
  by_cases hb : n ≤ 65536
  · have HV := Lib.hid (fun W => vBig_no A n c W hb)
    have HAT := Lib.hid (fun i W (hW : BytesAt W A l) hi => vAt_any A n c l i W hn hW (by omega) hi)
    have HLE := Lib.hid (vN_le l)
    have HBY := Lib.hid h
    obtain ⟨i0, hi, hz0, hz1, hz2⟩ := info_parts infoInt
    have v0 := vN_le l 0
    obtain ⟨u0, hu0⟩ : ∃ u, u = vN l 0 := ⟨_, rfl⟩
    have HA0 := Lib.hid (HAT.out 0 w HBY.out (by omega))
    rw [← hu0] at HA0 v0
    clear hn h hm hu0
    go_enter Try.func8, Try.ntmps8
    go_wp2_with fail
    refine (HV.out _).mono ?_
    rintro e w1 ⟨rfl, rfl⟩
    go_wp2_with fail
    refine HA0.out.mono ?_
    rintro e w1 ⟨rfl, rfl⟩
    go_wp2_with fail
    obtain ⟨m, hmm⟩ : ∃ m : Nat, m = 2 + u0 % 4 := ⟨_, rfl⟩
    have hm2 : 2 ≤ m := by omega
    have hm5 : m ≤ 5 := by omega
    rw [show (2 : Int) + (u0 : Int) % 4 = (m : Int) by omega]
    clear hmm v0 HA0
    have HST := Lib.hid (nil_own w)
    go_loopw [4, 5] (fun v i wr => ∃ (L : List Int) (A1 : Option Addr) (c1 k : Nat), k ≤ m ∧ i = .int .i64 (k : Int) ∧ v = .slice A1 k c1 ∧ Hid (L.length = k) ∧ Hid (∀ x ∈ L, 0 ≤ x ∧ x ≤ 2) ∧ OwnI wr w.heap.size wr.heap.size A1 c1 L ∧ Below w.heap.size w wr) (fun _ i _ => m - (intOf i).toNat)
    case atStart => exact ⟨[], some ⟨w.heap.size, 0, none⟩, 0, 0, by omega, rfl, rfl, rfl, by simp [Hid], HST.out, below1 _ _⟩
    case round =>
      clear HST
      obtain ⟨L, A1, c1, k, hk, rfl, rfl, HLK, HL, ho, hbw⟩ := hrel
      by_cases hlt : k < m
      · have hv := vN_le l (k + 1)
        have HA := Lib.hid (HAT.out (k + 1) wr (HBY.out.below hbw) (by omega))
        obtain ⟨u, hu⟩ : ∃ u, u = vN l (k + 1) := ⟨_, rfl⟩
        rw [← hu, show ((k + 1 : Nat) : Int) = (k : Int) + 1 by omega] at HA
        rw [← hu] at hv
        have hrow := Own.toRow ((ho.since (below1 wr (.cells #[.int .i64 ((u : Int) % 3)] 3)) (Nat.le_refl _))) (intCs_len L) (by decide)
        rw [List.length_map, HLK.out] at hrow
        have hsrc : 0 < 1 → ∃ ad, some (⟨wr.heap.size, 0, none⟩ : Addr) = some ad ∧ ∀ j u', [Value.int .i64 ((u : Int) % 3)][j]? = some u' → (wr.alloc (.cells #[.int .i64 ((u : Int) % 3)] 3)).cell? (ad.add j) = some u' := fun _ => ⟨_, rfl, fun j u' hj => by
          cases j with
          | zero =>
            simp at hj
            subst hj
            simp [Addr.add]
          | succ j => simp at hj⟩
        have HROW := Lib.hid hrow
        have HSRC := Lib.hid hsrc
        have HB := Lib.hid hbw
        have HO := Lib.hid ho
        have hsz := hbw.size
        clear hu hrow hsrc hbw ho
        go_wp2_with fail
        refine HA.out.mono ?_
        rintro e w1 ⟨rfl, rfl⟩
        go_wp2_with (at_builtin; refine wpList_app rfl (.tmp 40) (.tmp 46) 23 rfl w.heap.size 3 i0 _ 1 8 Try.underlying23 hi hz0 hz1 hz2 rfl (by decide) (.slice A1 k c1) k ((L.map intCs).flatten) rfl HROW.out (some ⟨wr.heap.size, 0, none⟩) 1 1 [.int .i64 ((u : Int) % 3)] rfl rfl HSRC.out (by simp [Value.oneCell']) (by unfold maxLen; omega) (by omega) (by simp; omega) ?_; intro v1 w1 hown1 hgr1 _; have hx := Own.ofRow (w := w1) (lo := w.heap.size) (t := 3) (sz := 1) (n := k + 1) (v := v1) (L := (L ++ [(u : Int) % 3]).map intCs) (hi := w1.heap.size) (by simpa [intCs] using hown1) (intCs_len _) (by decide) (fun k hk => (hown1.lt k hk).2); obtain ⟨A2, c2, rfl, hl2, ho2⟩ := hx)
        have HB2 := Lib.hid ((HB.out.trans ((below1 wr (.cells #[.int .i64 ((u : Int) % 3)] 3)).mono HB.out.size)).grown hgr1 (by simp; omega) (fun k hk => by
          cases A1 with
          | none => simp [Value.ownBlock] at hk
          | some a => simp [Value.ownBlock] at hk; subst hk; exact (Own.block HO.out a rfl).1))
        have HO2 := Lib.hid ho2
        have HLL := Lib.hid (show (L ++ [(u : Int) % 3]).length = k + 1 by rw [List.length_append, HLK.out]; rfl)
        have HL2 := Lib.hid (show ∀ x ∈ L ++ [(u : Int) % 3], 0 ≤ x ∧ x ≤ 2 by
          intro x hx
          rcases List.mem_append.1 hx with hx | hx
          · exact HL.out x hx
          · simp at hx; omega)
        clear hown1 hgr1 ho2 hl2
        go_roundw
        case rel => exact ⟨L ++ [(u : Int) % 3], A2, c2, k + 1, by omega, by go_num, by rw [HLK.out], HLL, HL2, HO2.out, HB2.out⟩
        case measure => simp [intOf]; omega
      · have hkm : k = m := by omega
        subst hkm
        have hlk := HLK.out
        subst hlk
        have v7 := vN_le l 7
        have HA7 := Lib.hid (fun W (hW : Below w.heap.size w W) => HAT.out 7 W (HBY.out.below hW) (by omega))
        obtain ⟨u7, hu7⟩ : ∃ u, u = vN l 7 := ⟨_, rfl⟩
        rw [← hu7, show ((7 : Nat) : Int) = 7 from rfl] at HA7
        rw [← hu7] at v7
        obtain ⟨far, hfar⟩ : ∃ f : Int, f = (u7 : Int) % 6 := ⟨_, rfl⟩
        have hf5 : 0 ≤ far ∧ far ≤ 5 := by omega
        have HFAR := Lib.hid hfar
        clear hfar
        have HRU := Lib.hid (show Run 0 L far [] 1 31 from ⟨by omega, by
          unfold homesB
          rw [decide_eq_true (by omega), decide_eq_true (by omega), Bool.true_and, Bool.true_and, List.all_eq_true]
          intro x hx
          have := HL.out x hx
          exact inB_mk (by omega), hf5, by simp, Let.nil, by omega, by omega⟩)
        have hgood := HRU.out.good
        have hL5 : L.length ≤ 1048576 := by omega
        have HO := Lib.hid (ho.wider (Nat.zero_le _) (Nat.le_refl _))
        have HBW := Lib.hid hbw
        have HN1 := Lib.hid (implNew_at HO.out (Nat.le_refl _) hL5 hgood)
        have HN2 := Lib.hid (fun W (hW : Below wr.heap.size wr W) => specNew_at (HO.out.since hW (Nat.le_refl _)) hW.size hL5 hgood)
        have HAT2 := HAT
        clear ho hbw hu7 hgood HAT
        go_wp2_with fail
        refine (HA7.out _ HBW.out).mono ?_
        rintro e w1 ⟨rfl, rfl⟩
        go_wp2_with fail
        rw [← HFAR.out]
        refine HN1.out.mono ?_
        rintro e w2 ⟨A2, c2, B2, d2, rfl, hoi2, hol2, hb2⟩
        have hb3 := below1 w2 (.cells #[.int .i64 0, .slice A2 L.length c2, .int .i64 far, .slice B2 0 d2] 35)
        have hna3 := NetAt.new (t := 0) (far := far) hoi2 hol2
        simp only [List.length_nil] at hna3
        have hbb := hb2.trans (hb3.mono hb2.size)
        have hgg := (HBW.out.trans (hb2.mono HBW.out.size)).size
        have HB3 := Lib.hid (HBW.out.trans (hbb.mono HBW.out.size))
        simp only [List.length_nil]
        go_upto_region 10 with fail
        obtain ⟨g, hg⟩ : ∃ g, g = w2.heap.size := ⟨_, rfl⟩
        obtain ⟨W2, hW2⟩ : ∃ W2, W2 = w2.alloc (.cells #[.int .i64 0, .slice A2 L.length c2, .int .i64 far, .slice B2 0 d2] 35) := ⟨_, rfl⟩
        rw [← hW2] at hbb hna3 HB3 ⊢
        rw [← hg] at hna3 hgg ⊢
        have HNA3 := Lib.hid hna3
        have HBB := Lib.hid hbb
        clear hoi2 hol2 hb2 hb3 hna3 hbb hW2 hg HN1
        go_wp2_with fail
        refine (HA7.out _ HB3.out).mono ?_
        rintro e w1 ⟨rfl, rfl⟩
        go_wp2_with fail
        rw [← HFAR.out]
        refine (HN2.out _ HBB.out).mono ?_
        rintro e w3 ⟨A3, c3, B3, d3, rfl, hoi3, hol3, hb3⟩
        have hb4 := below1 w3 (.cells #[.int .i64 0, .slice A3 L.length c3, .int .i64 far, .slice B3 0 d3] 35)
        have hna4 := (HNA3.out.below hb3).below hb4
        have hnc4 := NetAt.new (t := 0) (far := far) hoi3 hol3
        simp only [List.length_nil] at hnc4
        have HB4 := Lib.hid (HB3.out.trans ((hb3.trans (hb4.mono hb3.size)).mono HB3.out.size))
        simp only [List.length_nil]
        go_upto_region 11 with fail
        obtain ⟨g3, hg3⟩ : ∃ g3, g3 = w3.heap.size := ⟨_, rfl⟩
        obtain ⟨W3, hW3⟩ : ∃ W3, W3 = w3.alloc (.cells #[.int .i64 0, .slice A3 L.length c3, .int .i64 far, .slice B3 0 d3] 35) := ⟨_, rfl⟩
        rw [← hW3] at hna4 hnc4 HB4 ⊢
        rw [← hg3] at hnc4 ⊢
        have HNA4 := Lib.hid hna4
        have HVN := Lib.hid (vNet_at hna4 hnc4 HRU.out.small)
        obtain ⟨x0, x1, x2, x3⟩ := hna4.cells
        obtain ⟨z0, z1, z2, z3⟩ := hnc4.cells
        clear hoi3 hol3 hb3 hb4 hna4 hnc4 hW3 hg3 HN2 HNA3 HB3 HBB HO
        simp only [List.length_nil] at x3 z3
        go_wp2_with fail
        refine HVN.out.mono ?_
        rintro e w5 ⟨rfl, hb5⟩
        have HNA5 := Lib.hid (HNA4.out.below hb5)
        have HB5 := Lib.hid (HB4.out.trans (hb5.mono HB4.out.size))
        clear x0 x1 x2 x3 z0 z1 z2 z3 HVN hb5 HNA4 HB4
        go_wp2_with fail
        obtain ⟨WO, hWO⟩ : ∃ WO : World, WO = w5 := ⟨_, rfl⟩
        have hgw : w.heap.size ≤ g := by omega
        have HATT := Lib.hid (fun i W (hW : Below w.heap.size w W) hi => HAT2.out i W (HBY.out.below hW) hi)
        clear HAT2 hWO
        go_loopw [10, 11, 12] (fun sv qv iv wr => ∃ (i s q : Nat) (ls : List (Int × Int × Int × ByteArray)) (A : Option Addr) (c : Nat) (A' : Option Addr) (c' : Nat), i ≤ 40 ∧ iv = .int .i64 (i : Int) ∧ sv = .int .i64 (s : Int) ∧ qv = .int .i64 (q : Int) ∧ Hid (q + ls.length = s) ∧ s ≤ i ∧ s ≤ 20 ∧ Hid (Run (i : Int) L far ls ((i : Int) + 1) 31) ∧ NetAt wr g (i : Int) L far ls A c A' c' ∧ Below w.heap.size w wr) (fun _ _ iv _ => 40 - (intOf iv).toNat)
        case atStart => exact ⟨0, 0, 0, [], A2, c2, B2, d2, by omega, rfl, rfl, rfl, rfl, by omega, by omega, HRU.out, HNA5.out, HB5.out⟩
        case round =>
          clear HNA5 HB5 HRU
          obtain ⟨i, s, q, ls, A', c', B', d', hi40, rfl, rfl, rfl, HQS, hsi, hs20, HRU, hna, hbw⟩ := hrel
          by_cases hlt : i < 40
          · have HNA := Lib.hid hna
            have HBW := Lib.hid hbw
            have v8 := vN_le l (i + 8)
            have v9 := vN_le l (i + 9)
            have HA8 := Lib.hid (fun p : BelT wr => HATT.out (i + 8) p.w (HBW.out.trans (p.below.mono HBW.out.size)) (by omega))
            have HA9 := Lib.hid (fun p : BelT wr => HATT.out (i + 9) p.w (HBW.out.trans (p.below.mono HBW.out.size)) (by omega))
            obtain ⟨u8, hu8⟩ : ∃ u, u = vN l (i + 8) := ⟨_, rfl⟩
            obtain ⟨u9, hu9⟩ : ∃ u, u = vN l (i + 9) := ⟨_, rfl⟩
            rw [← hu8, show ((i + 8 : Nat) : Int) = (i : Int) + 8 by omega] at HA8
            rw [← hu9, show ((i + 9 : Nat) : Int) = (i : Int) + 9 by omega] at HA9
            rw [← hu8] at v8
            rw [← hu9] at v9
            have hLp : (0 : Int) < (L.length : Int) := by omega
            have hLn : ¬ (L.length : Int) = 0 := by omega
            clear hu8 hu9 hna hbw
            go_wp2_with fail
            refine bel_region (by kernel_rfl) (by kernel_rfl) ?_
            repeat (go_big_quiet_step ((first | (go_at_call 29; with_reducible exact bel_same (HA8.out _)) | (go_at_call 29; with_reducible exact bel_same (HA9.out _)))))
            refine wpQuiet_nil ?_
            intro p
            obtain ⟨f, hf⟩ : ∃ f : Int, f = (u8 : Int) % (L.length : Int) := ⟨_, rfl⟩
            obtain ⟨t, ht⟩ : ∃ t : Int, t = (u9 : Int) % (L.length : Int) := ⟨_, rfl⟩
            have hnf : nodeB L.length f = true := nodeB_mk ⟨by rw [hf]; exact Int.emod_nonneg _ (by omega), by rw [hf]; exact Int.emod_lt_of_pos _ hLp⟩
            have hnt : nodeB L.length t = true := nodeB_mk ⟨by rw [ht]; exact Int.emod_nonneg _ (by omega), by rw [ht]; exact Int.emod_lt_of_pos _ hLp⟩
            rw [← hf, ← ht]
            obtain ⟨W1, hW1⟩ : ∃ W1, W1 = p.w := ⟨_, rfl⟩
            have hp := p.below
            rw [← hW1] at hp ⊢
            have hna1 := HNA.out.below hp
            have hbw1 := HBW.out.trans (hp.mono HBW.out.size)
            clear HNA HBW hf ht HA8 HA9 hp
            have HNA := Lib.hid hna1
            have HBW := Lib.hid hbw1
            clear hna1 hbw1 hW1
            by_cases h20 : i < 20
            · by_cases hft : f = t
              · subst hft
                have HTK := Lib.hid (implTick_at HNA.out HRU.out.small)
                rw [HRU.out.tick] at HTK
                have HRU2 := Lib.hid (HRU.out.tock (by omega))
                obtain ⟨y0, y1, y2, y3⟩ := HNA.out.cells
                go_wp2_with fail
                refine HTK.out.mono ?_
                rintro e w3 ⟨A3, c3, B3, d3, rfl, hoi3, hol3, hb3⟩
                have hna3 := HNA.out.below hb3
                have HB3 := Lib.hid (HBW.out.trans (hb3.mono HBW.out.size))
                clear y0 y1 y2 y3 HTK
                obtain ⟨y0, y1, y2, y3⟩ := hna3.cells
                have f0 := hna3.free 0
                have f1 := hna3.free 1
                have f2 := hna3.free 2
                have f3 := hna3.free 3
                go_upto_region 27 with fail
                obtain ⟨W3, hW3⟩ : ∃ W3, W3 = ((((w3.setCell ⟨g, 0, none⟩ (.int .i64 ((i : Int) + 1))).setCell ⟨g, 1, none⟩ (.slice A3 L.length c3)).setCell ⟨g, 2, none⟩ (.int .i64 far)).setCell ⟨g, 3, none⟩ (.slice B3 ls.length d3)) := ⟨_, rfl⟩
                rw [← hW3]
                have hna4 : NetAt W3 g ((i : Int) + 1) L far ls A3 c3 B3 d3 := by rw [hW3]; exact hna3.put hoi3 hol3
                have HBW4 := Lib.hid (show Below w.heap.size w W3 by rw [hW3]; exact put_below HB3.out hgw)
                clear hna3 hoi3 hol3 hb3 hW3 y0 y1 y2 y3 f0 f1 f2 f3
                have hdl := HRU2.out.dlv
                have HD1 := Lib.hid (implDlv_at hna4 HRU2.out.small hdl)
                have HD2 := Lib.hid (fun W (hW : NetAt W g ((i : Int) + 1) L far ls A3 c3 B3 d3) => specDlv_at hW HRU2.out.small hdl)
                obtain ⟨us, hus⟩ : ∃ us, us = ls.drop (dueK ls ((i : Int) + 1)) := ⟨_, rfl⟩
                obtain ⟨ts, hts⟩ : ∃ ts, ts = ls.take (dueK ls ((i : Int) + 1)) := ⟨_, rfl⟩
                have HCUT := Lib.hid (show ts.length + us.length = ls.length by rw [hus, hts]; exact cut_len _ _)
                have HRU3 := Lib.hid (show Run ((i : Int) + 1) L far us ((i : Int) + 1 + 1) 31 by rw [hus]; exact HRU2.out.left)
                have hsub : ∀ x ∈ ts, x ∈ ls := fun x hx => by rw [hts] at hx; exact List.mem_of_mem_take hx
                have HTS := Lib.hid (show ∀ j (h : j < ts.length), ts[j].2.2.1 = (i : Int) + 1 by
                  intro j hj
                  have h1 : ts[j].2.2.1 ≤ (i : Int) + 1 := by subst hts; exact take_due j hj
                  have h2 := (HRU2.out.lets.2 ts[j] (hsub _ (List.getElem_mem hj))).2.1
                  omega)
                rw [← hus, ← hts] at HD1 HD2
                have HNA4 := Lib.hid hna4
                have HTL := Lib.hid (show ts.length ≤ 100 by have := HCUT.out; have := HRU2.out.few; omega)
                clear hsub hus hts hdl hna4 HNA HRU HBW HB3
                obtain ⟨y0, y1, y2, y3⟩ := HNA4.out.cells
                go_wp2_with fail
                refine HD1.out.mono ?_
                rintro e w5 ⟨A5, c5, B5, d5, D5, e5, rfl, hoi5, hol5, hot5, hb5⟩
                clear y0 y1 y2 y3 HD1
                have hna5 := HNA4.out.below hb5
                have HB5 := Lib.hid (HBW4.out.trans (hb5.mono HBW4.out.size))
                have hb6 := below1 w5 (.cells #[.int .i64 ((i : Int) + 1), .slice A5 L.length c5, .int .i64 far, .slice B5 us.length d5] 35)
                have hna6 := hna5.below hb6
                have hnb6 := NetAt.new (t := (i : Int) + 1) (far := far) hoi5 hol5
                have hot6 := (hot5.since hb6 (Nat.le_refl _)).wider (Nat.le_refl _) hb6.size
                have HB6 := Lib.hid (HB5.out.trans (hb6.mono HB5.out.size))
                go_upto_region 28 with fail
                obtain ⟨g5, hg5⟩ : ∃ g5, g5 = w5.heap.size := ⟨_, rfl⟩
                obtain ⟨W5, hW5⟩ : ∃ W5, W5 = w5.alloc (.cells #[.int .i64 ((i : Int) + 1), .slice A5 L.length c5, .int .i64 far, .slice B5 us.length d5] 35) := ⟨_, rfl⟩
                rw [← hW5]
                rw [← hW5] at hna6 hnb6 hot6 HB6
                rw [← hg5] at hnb6 ⊢
                have HG5 := Lib.hid (show g < g5 by rw [hg5]; exact hna5.lt)
                have HNA6 := Lib.hid hna6
                have HNB6 := Lib.hid hnb6
                have HOT6 := Lib.hid hot6
                clear hna5 hb5 hb6 hna6 hnb6 hot6 hoi5 hol5 hot5 hW5 hg5 HNA4 HBW4 HB5
                obtain ⟨y0, y1, y2, y3⟩ := HNA6.out.cells
                go_wp2_with fail
                refine (HD2.out _ HNA6.out).mono ?_
                rintro e w7 ⟨A7, c7, B7, d7, D7, e7, rfl, hoi7, hol7, hot7, hb7⟩
                clear y0 y1 y2 y3 HD2
                have hb8 := below1 w7 (.cells #[.int .i64 ((i : Int) + 1), .slice A7 L.length c7, .int .i64 far, .slice B7 us.length d7] 35)
                have hna8 := (HNA6.out.below hb7).below hb8
                have hnb8 := (HNB6.out.below hb7).below hb8
                have hnc8 := NetAt.new (t := (i : Int) + 1) (far := far) hoi7 hol7
                have hot8 := (((HOT6.out.since hb7 (Nat.le_refl _)).wider (Nat.le_refl _) hb7.size).since hb8 (Nat.le_refl _)).wider (Nat.le_refl _) hb8.size
                have hou8 := (hot7.since hb8 (Nat.le_refl _)).wider (Nat.le_refl _) hb8.size
                have HB8 := Lib.hid (HB6.out.trans ((hb7.trans (hb8.mono hb7.size)).mono HB6.out.size))
                go_upto_region 29 with fail
                obtain ⟨g7, hg7⟩ : ∃ g7, g7 = w7.heap.size := ⟨_, rfl⟩
                obtain ⟨W7, hW7⟩ : ∃ W7, W7 = w7.alloc (.cells #[.int .i64 ((i : Int) + 1), .slice A7 L.length c7, .int .i64 far, .slice B7 us.length d7] 35) := ⟨_, rfl⟩
                rw [← hW7]
                rw [← hW7] at hna8 hnb8 hnc8 hot8 hou8 HB8
                rw [← hg7] at hnc8 ⊢
                have HNA8 := Lib.hid hna8
                have HNB8 := Lib.hid hnb8
                have HOT8 := Lib.hid hot8
                have HVN := Lib.hid (vNet_at hnb8 hnc8 HRU3.out.small)
                have HVL := Lib.hid (fun W (hW : Below W7.heap.size W7 W) => vLetters_same D5 D7 ts.length e5 e7 ts W.heap.size W rfl ((hot8.since hW (Nat.le_refl _)).lets.mono hW.size) ((hou8.since hW (Nat.le_refl _)).lets.mono hW.size) (Nat.le_refl _) (by have := HTL.out; omega))
                obtain ⟨x0, x1, x2, x3⟩ := hnb8.cells
                obtain ⟨z0, z1, z2, z3⟩ := hnc8.cells
                clear hb7 hb8 hna8 hnb8 hnc8 hot8 hou8 hoi7 hol7 hot7 hW7 hg7 HNA6 HNB6 HOT6 HB6
                go_wp2_with fail
                refine HVN.out.mono ?_
                rintro e w9 ⟨rfl, hb9⟩
                clear x0 x1 x2 x3 z0 z1 z2 z3 HVN
                go_wp2_with fail
                refine (HVL.out _ hb9).mono ?_
                rintro e w10 ⟨rfl, hb10⟩
                have hbb := hb9.trans (hb10.mono hb9.size)
                have HNA9 := Lib.hid (HNA8.out.below hbb)
                have HNB9 := Lib.hid (HNB8.out.below hbb)
                have HOT9 := Lib.hid ((HOT8.out.since hbb (Nat.le_refl _)).lets.mono hbb.size)
                have HB9 := Lib.hid (HB8.out.trans (hbb.mono HB8.out.size))
                clear hb9 hb10 hbb HVL HNA8 HNB8 HOT8 HB8
                go_wp2_with fail
                obtain ⟨WI, hWI⟩ : ∃ WI : World, WI = w10 := ⟨_, rfl⟩
                rw [← hWI] at HNA9 HNB9 HOT9 HB9
                have htl := HTL.out
                go_loopw [27] (fun j wr => ∃ k : Nat, k ≤ ts.length ∧ j = .int .i64 (k : Int) ∧ Below WI.heap.size WI wr) (fun j _ => ts.length - (intOf j).toNat)
                case atStart => exact ⟨0, by omega, rfl, by rw [← hWI]; exact Below.refl _ _⟩
                case round =>
                  obtain ⟨k, hk, rfl, hbk⟩ := hrel
                  by_cases hlk : k < ts.length
                  · obtain ⟨b, off, rfl, hbB, hc⟩ := HOT9.out.get (by omega)
                    have hc2 := (hc k hlk).2.2.1
                    rw [HTS.out k hlk] at hc2
                    have c2 := (hbk.cell (p := ⟨b, off + k * 4 + 2, none⟩) hbB).trans hc2
                    obtain ⟨y0, y1, y2, y3⟩ := (HNA9.out.below hbk).cells
                    have hk0 : (0 : Int) ≤ (k : Int) := by omega
                    have hkn : (k : Int) < (ts.length : Int) := by omega
                    have HBK := Lib.hid hbk
                    clear hc hc2 hbk
                    go_wp2_with fail
                    go_quiet (fail)
                    go_wp2
                    go_roundw
                    case rel => exact ⟨k + 1, by omega, by go_num, below_drewN HBK.out _⟩
                    case measure => simp [intOf]; omega
                  · have hna10 := HNA9.out.below hbk
                    have hnb10 := HNB9.out.below hbk
                    have HB10 := Lib.hid (HB9.out.trans (hbk.mono HB9.out.size))
                    obtain ⟨x0, x1, x2, x3⟩ := hnb10.cells
                    obtain ⟨y0, y1, y2, y3⟩ := hna10.cells
                    have f0 := hna10.free 0
                    have f1 := hna10.free 1
                    have f2 := hna10.free 2
                    have f3 := hna10.free 3
                    have hqb : q ≤ 100 := by have := HQS.out; omega
                    have hsb : s ≤ 100 := by omega
                    have HREL := Lib.hid (show (NetAt (put wr g (.int .i64 ((i : Int) + 1)) (.slice A5 L.length c5) (.int .i64 far) (.slice B5 us.length d5)) g ((i : Int) + 1) L far us A5 c5 B5 d5) ∧ Below w.heap.size w (put wr g (.int .i64 ((i : Int) + 1)) (.slice A5 L.length c5) (.int .i64 far) (.slice B5 us.length d5)) from ⟨hna10.put hnb10.2.1 hnb10.2.2, put_below HB10.out hgw⟩)
                    clear hbk hna10 hnb10
                    go_wp2
                    go_roundw
                    case rel => exact ⟨i + 1, s, q + ts.length, us, A5, c5, B5, d5, by omega, by go_num, by go_num, by go_num, show _ = _ by have := HQS.out; have := HCUT.out; omega, by omega, by omega, HRU3, HREL.out.1, HREL.out.2⟩
                    case measure => simp [intOf]; omega
              · skip
                have hsd := HRU.out.sent f t ⟨#[108]⟩ rfl hnf hnt hft (by omega) (by omega) (by have := HQS.out; omega)
                have htp := HRU.out.trips f t hnf hnt
                have htr := HRU.out.trip f t
                obtain ⟨tr, htrr⟩ : ∃ tr, tr = tripI L far f t := ⟨_, rfl⟩
                rw [← htrr] at hsd htp htr
                obtain ⟨us9, hus9⟩ : ∃ x, x = insL ls (f, t, (i : Int) + tr, (⟨#[108]⟩ : ByteArray)) := ⟨_, rfl⟩
                rw [← hus9] at hsd
                have HQS2 := Lib.hid (show q + us9.length = s + 1 by rw [hus9, insL_len]; have := HQS.out; omega)
                have HS1 := Lib.hid (implSend_at HNA.out HRU.out.small f t ⟨#[108]⟩ (by decide))
                have HTR := Lib.hid (fun W (hW : NetAt W g (i : Int) L far ls A' c' B' d') => implTrip_at hW HRU.out.small f t)
                have HS2 := Lib.hid (fun W (hW : NetAt W g (i : Int) L far ls A' c' B' d') => specSend_at hW HRU.out.small f t ⟨#[108]⟩ (by decide))
                rw [hsd.1] at HS1 HS2
                rw [htp] at HTR
                simp only at HS1 HS2 HTR
                have HRU9 := Lib.hid hsd.2
                have htr1 := htr.1
                clear hsd htp htr htrr hus9 HQS HRU
                have HQS := HQS2
                have HRU := HRU9
                clear HQS2 HRU9
                obtain ⟨y0, y1, y2, y3⟩ := HNA.out.cells
                go_wp2_with fail
                refine HS1.out.mono ?_
                rintro e w2 ⟨A2', c2', B2', d2', rfl, hoi2, hol2, hb2⟩
                clear y0 y1 y2 y3 HS1
                have hb3 := below1 w2 (.cells #[.int .i64 (i : Int), .slice A2' L.length c2', .int .i64 far, .slice B2' us9.length d2'] 35)
                have hna3 := (HNA.out.below hb2).below hb3
                have hnc3 := NetAt.new (t := (i : Int)) (far := far) hoi2 hol2
                have HB3 := Lib.hid (HBW.out.trans ((hb2.trans (hb3.mono hb2.size)).mono HBW.out.size))
                have hgl := hna3.lt
                go_upto_region 20 with fail
                obtain ⟨g15, hg15⟩ : ∃ g15, g15 = w2.heap.size := ⟨_, rfl⟩
                obtain ⟨W2, hW2⟩ : ∃ W2, W2 = w2.alloc (.cells #[.int .i64 (i : Int), .slice A2' L.length c2', .int .i64 far, .slice B2' us9.length d2'] 35) := ⟨_, rfl⟩
                have HG15 := Lib.hid (show g < g15 by rw [hg15]; exact (HNA.out.below hb2).lt)
                rw [← hW2] at hna3 hnc3 HB3 hgl ⊢
                rw [← hg15] at hnc3 ⊢
                have HNA3 := Lib.hid hna3
                have HNC3 := Lib.hid hnc3
                clear hoi2 hol2 hb2 hb3 hna3 hnc3 hW2 hg15 HNA HBW hgl
                obtain ⟨y0, y1, y2, y3⟩ := HNA3.out.cells
                go_wp2_with fail
                refine (HTR.out _ HNA3.out).mono ?_
                rintro e w4 ⟨rfl, hb4⟩
                have HNA4 := Lib.hid (HNA3.out.below hb4)
                have HNC4 := Lib.hid (HNC3.out.below hb4)
                have HB4 := Lib.hid (HB3.out.trans (hb4.mono HB3.out.size))
                clear y0 y1 y2 y3 hb4 HTR HNA3 HNC3 HB3
                obtain ⟨y0, y1, y2, y3⟩ := HNA4.out.cells
                go_wp2_with fail
                refine (HS2.out _ HNA4.out).mono ?_
                rintro e w6 ⟨A6', c6', B6', d6', rfl, hoi6, hol6, hb6⟩
                clear y0 y1 y2 y3 HS2
                have hb7 := below1 w6 (.cells #[.int .i64 (i : Int), .slice A6' L.length c6', .int .i64 far, .slice B6' us9.length d6'] 35)
                have hna7 := (HNA4.out.below hb6).below hb7
                have hnc7 := (HNC4.out.below hb6).below hb7
                have hnd7 := NetAt.new (t := (i : Int)) (far := far) hoi6 hol6
                have HB7 := Lib.hid (HB4.out.trans ((hb6.trans (hb7.mono hb6.size)).mono HB4.out.size))
                go_upto_region 22 with fail
                obtain ⟨g19, hg19⟩ : ∃ g19, g19 = w6.heap.size := ⟨_, rfl⟩
                obtain ⟨W6, hW6⟩ : ∃ W6, W6 = w6.alloc (.cells #[.int .i64 (i : Int), .slice A6' L.length c6', .int .i64 far, .slice B6' us9.length d6'] 35) := ⟨_, rfl⟩
                rw [← hW6] at hna7 hnc7 hnd7 HB7 ⊢
                rw [← hg19] at hnd7 ⊢
                have HNA7 := Lib.hid hna7
                have HNC7 := Lib.hid hnc7
                have HVN := Lib.hid (vNet_at hnc7 hnd7 HRU.out.small)
                obtain ⟨x0, x1, x2, x3⟩ := hnc7.cells
                obtain ⟨z0, z1, z2, z3⟩ := hnd7.cells
                have htr9 : ¬ tr < 1 := by omega
                clear hoi6 hol6 hb6 hb7 hna7 hnc7 hnd7 hW6 hg19 HNA4 HNC4 HB4
                go_wp2_with fail
                refine HVN.out.mono ?_
                rintro e w8 ⟨rfl, hb8⟩
                have hna8 := HNA7.out.below hb8
                have hnc8 := HNC7.out.below hb8
                have HB8 := Lib.hid (HB7.out.trans (hb8.mono HB7.out.size))
                clear x0 x1 x2 x3 z0 z1 z2 z3 HVN hb8
                obtain ⟨x0, x1, x2, x3⟩ := hnc8.cells
                obtain ⟨y0, y1, y2, y3⟩ := hna8.cells
                have f0 := hna8.free 0
                have f1 := hna8.free 1
                have f2 := hna8.free 2
                have f3 := hna8.free 3
                go_upto_region 26 with fail
                obtain ⟨W8, hW8⟩ : ∃ W8, W8 = ((((w8.setCell ⟨g, 0, none⟩ (.int .i64 (i : Int))).setCell ⟨g, 1, none⟩ (.slice A2' L.length c2')).setCell ⟨g, 2, none⟩ (.int .i64 far)).setCell ⟨g, 3, none⟩ (.slice B2' us9.length d2')) := ⟨_, rfl⟩
                rw [← hW8]
                have HNA := Lib.hid (show NetAt W8 g (i : Int) L far us9 A2' c2' B2' d2' by rw [hW8]; exact hna8.put hnc8.2.1 hnc8.2.2)
                have HBW := Lib.hid (show Below w.heap.size w W8 by rw [hW8]; exact put_below HB8.out hgw)
                clear hna8 hnc8 hW8 x0 x1 x2 x3 y0 y1 y2 y3 f0 f1 f2 f3 HNA7 HNC7 HB7 HB8 HG15
                have HTK := Lib.hid (implTick_at HNA.out HRU.out.small)
                rw [HRU.out.tick] at HTK
                have HRU2 := Lib.hid (HRU.out.tock (by omega))
                obtain ⟨y0, y1, y2, y3⟩ := HNA.out.cells
                go_wp2_with fail
                refine HTK.out.mono ?_
                rintro e w3 ⟨A3, c3, B3, d3, rfl, hoi3, hol3, hb3⟩
                have hna3 := HNA.out.below hb3
                have HB3 := Lib.hid (HBW.out.trans (hb3.mono HBW.out.size))
                clear y0 y1 y2 y3 HTK
                obtain ⟨y0, y1, y2, y3⟩ := hna3.cells
                have f0 := hna3.free 0
                have f1 := hna3.free 1
                have f2 := hna3.free 2
                have f3 := hna3.free 3
                go_upto_region 27 with fail
                obtain ⟨W3, hW3⟩ : ∃ W3, W3 = ((((w3.setCell ⟨g, 0, none⟩ (.int .i64 ((i : Int) + 1))).setCell ⟨g, 1, none⟩ (.slice A3 L.length c3)).setCell ⟨g, 2, none⟩ (.int .i64 far)).setCell ⟨g, 3, none⟩ (.slice B3 us9.length d3)) := ⟨_, rfl⟩
                rw [← hW3]
                have hna4 : NetAt W3 g ((i : Int) + 1) L far us9 A3 c3 B3 d3 := by rw [hW3]; exact hna3.put hoi3 hol3
                have HBW4 := Lib.hid (show Below w.heap.size w W3 by rw [hW3]; exact put_below HB3.out hgw)
                clear hna3 hoi3 hol3 hb3 hW3 y0 y1 y2 y3 f0 f1 f2 f3
                have hdl := HRU2.out.dlv
                have HD1 := Lib.hid (implDlv_at hna4 HRU2.out.small hdl)
                have HD2 := Lib.hid (fun W (hW : NetAt W g ((i : Int) + 1) L far us9 A3 c3 B3 d3) => specDlv_at hW HRU2.out.small hdl)
                obtain ⟨us, hus⟩ : ∃ us, us = us9.drop (dueK us9 ((i : Int) + 1)) := ⟨_, rfl⟩
                obtain ⟨ts, hts⟩ : ∃ ts, ts = us9.take (dueK us9 ((i : Int) + 1)) := ⟨_, rfl⟩
                have HCUT := Lib.hid (show ts.length + us.length = us9.length by rw [hus, hts]; exact cut_len _ _)
                have HRU3 := Lib.hid (show Run ((i : Int) + 1) L far us ((i : Int) + 1 + 1) 31 by rw [hus]; exact HRU2.out.left)
                have hsub : ∀ x ∈ ts, x ∈ us9 := fun x hx => by rw [hts] at hx; exact List.mem_of_mem_take hx
                have HTS := Lib.hid (show ∀ j (h : j < ts.length), ts[j].2.2.1 = (i : Int) + 1 by
                  intro j hj
                  have h1 : ts[j].2.2.1 ≤ (i : Int) + 1 := by subst hts; exact take_due j hj
                  have h2 := (HRU2.out.lets.2 ts[j] (hsub _ (List.getElem_mem hj))).2.1
                  omega)
                rw [← hus, ← hts] at HD1 HD2
                have HNA4 := Lib.hid hna4
                have HTL := Lib.hid (show ts.length ≤ 100 by have := HCUT.out; have := HRU2.out.few; omega)
                clear hsub hus hts hdl hna4 HNA HRU HBW HB3
                obtain ⟨y0, y1, y2, y3⟩ := HNA4.out.cells
                go_wp2_with fail
                refine HD1.out.mono ?_
                rintro e w5 ⟨A5, c5, B5, d5, D5, e5, rfl, hoi5, hol5, hot5, hb5⟩
                clear y0 y1 y2 y3 HD1
                have hna5 := HNA4.out.below hb5
                have HB5 := Lib.hid (HBW4.out.trans (hb5.mono HBW4.out.size))
                have hb6 := below1 w5 (.cells #[.int .i64 ((i : Int) + 1), .slice A5 L.length c5, .int .i64 far, .slice B5 us.length d5] 35)
                have hna6 := hna5.below hb6
                have hnb6 := NetAt.new (t := (i : Int) + 1) (far := far) hoi5 hol5
                have hot6 := (hot5.since hb6 (Nat.le_refl _)).wider (Nat.le_refl _) hb6.size
                have HB6 := Lib.hid (HB5.out.trans (hb6.mono HB5.out.size))
                go_upto_region 28 with fail
                obtain ⟨g5, hg5⟩ : ∃ g5, g5 = w5.heap.size := ⟨_, rfl⟩
                obtain ⟨W5, hW5⟩ : ∃ W5, W5 = w5.alloc (.cells #[.int .i64 ((i : Int) + 1), .slice A5 L.length c5, .int .i64 far, .slice B5 us.length d5] 35) := ⟨_, rfl⟩
                rw [← hW5]
                rw [← hW5] at hna6 hnb6 hot6 HB6
                rw [← hg5] at hnb6 ⊢
                have HG5 := Lib.hid (show g < g5 by rw [hg5]; exact hna5.lt)
                have HNA6 := Lib.hid hna6
                have HNB6 := Lib.hid hnb6
                have HOT6 := Lib.hid hot6
                clear hna5 hb5 hb6 hna6 hnb6 hot6 hoi5 hol5 hot5 hW5 hg5 HNA4 HBW4 HB5
                obtain ⟨y0, y1, y2, y3⟩ := HNA6.out.cells
                go_wp2_with fail
                refine (HD2.out _ HNA6.out).mono ?_
                rintro e w7 ⟨A7, c7, B7, d7, D7, e7, rfl, hoi7, hol7, hot7, hb7⟩
                clear y0 y1 y2 y3 HD2
                have hb8 := below1 w7 (.cells #[.int .i64 ((i : Int) + 1), .slice A7 L.length c7, .int .i64 far, .slice B7 us.length d7] 35)
                have hna8 := (HNA6.out.below hb7).below hb8
                have hnb8 := (HNB6.out.below hb7).below hb8
                have hnc8 := NetAt.new (t := (i : Int) + 1) (far := far) hoi7 hol7
                have hot8 := (((HOT6.out.since hb7 (Nat.le_refl _)).wider (Nat.le_refl _) hb7.size).since hb8 (Nat.le_refl _)).wider (Nat.le_refl _) hb8.size
                have hou8 := (hot7.since hb8 (Nat.le_refl _)).wider (Nat.le_refl _) hb8.size
                have HB8 := Lib.hid (HB6.out.trans ((hb7.trans (hb8.mono hb7.size)).mono HB6.out.size))
                go_upto_region 29 with fail
                obtain ⟨g7, hg7⟩ : ∃ g7, g7 = w7.heap.size := ⟨_, rfl⟩
                obtain ⟨W7, hW7⟩ : ∃ W7, W7 = w7.alloc (.cells #[.int .i64 ((i : Int) + 1), .slice A7 L.length c7, .int .i64 far, .slice B7 us.length d7] 35) := ⟨_, rfl⟩
                rw [← hW7]
                rw [← hW7] at hna8 hnb8 hnc8 hot8 hou8 HB8
                rw [← hg7] at hnc8 ⊢
                have HNA8 := Lib.hid hna8
                have HNB8 := Lib.hid hnb8
                have HOT8 := Lib.hid hot8
                have HVN := Lib.hid (vNet_at hnb8 hnc8 HRU3.out.small)
                have HVL := Lib.hid (fun W (hW : Below W7.heap.size W7 W) => vLetters_same D5 D7 ts.length e5 e7 ts W.heap.size W rfl ((hot8.since hW (Nat.le_refl _)).lets.mono hW.size) ((hou8.since hW (Nat.le_refl _)).lets.mono hW.size) (Nat.le_refl _) (by have := HTL.out; omega))
                obtain ⟨x0, x1, x2, x3⟩ := hnb8.cells
                obtain ⟨z0, z1, z2, z3⟩ := hnc8.cells
                clear hb7 hb8 hna8 hnb8 hnc8 hot8 hou8 hoi7 hol7 hot7 hW7 hg7 HNA6 HNB6 HOT6 HB6
                go_wp2_with fail
                refine HVN.out.mono ?_
                rintro e w9 ⟨rfl, hb9⟩
                clear x0 x1 x2 x3 z0 z1 z2 z3 HVN
                go_wp2_with fail
                refine (HVL.out _ hb9).mono ?_
                rintro e w10 ⟨rfl, hb10⟩
                have hbb := hb9.trans (hb10.mono hb9.size)
                have HNA9 := Lib.hid (HNA8.out.below hbb)
                have HNB9 := Lib.hid (HNB8.out.below hbb)
                have HOT9 := Lib.hid ((HOT8.out.since hbb (Nat.le_refl _)).lets.mono hbb.size)
                have HB9 := Lib.hid (HB8.out.trans (hbb.mono HB8.out.size))
                clear hb9 hb10 hbb HVL HNA8 HNB8 HOT8 HB8
                go_wp2_with fail
                obtain ⟨WI, hWI⟩ : ∃ WI : World, WI = w10 := ⟨_, rfl⟩
                rw [← hWI] at HNA9 HNB9 HOT9 HB9
                have htl := HTL.out
                go_loopw [27] (fun j wr => ∃ k : Nat, k ≤ ts.length ∧ j = .int .i64 (k : Int) ∧ Below WI.heap.size WI wr) (fun j _ => ts.length - (intOf j).toNat)
                case atStart => exact ⟨0, by omega, rfl, by rw [← hWI]; exact Below.refl _ _⟩
                case round =>
                  obtain ⟨k, hk, rfl, hbk⟩ := hrel
                  by_cases hlk : k < ts.length
                  · obtain ⟨b, off, rfl, hbB, hc⟩ := HOT9.out.get (by omega)
                    have hc2 := (hc k hlk).2.2.1
                    rw [HTS.out k hlk] at hc2
                    have c2 := (hbk.cell (p := ⟨b, off + k * 4 + 2, none⟩) hbB).trans hc2
                    obtain ⟨y0, y1, y2, y3⟩ := (HNA9.out.below hbk).cells
                    have hk0 : (0 : Int) ≤ (k : Int) := by omega
                    have hkn : (k : Int) < (ts.length : Int) := by omega
                    have HBK := Lib.hid hbk
                    clear hc hc2 hbk
                    go_wp2_with fail
                    go_quiet (fail)
                    go_wp2
                    go_roundw
                    case rel => exact ⟨k + 1, by omega, by go_num, below_drewN HBK.out _⟩
                    case measure => simp [intOf]; omega
                  · have hna10 := HNA9.out.below hbk
                    have hnb10 := HNB9.out.below hbk
                    have HB10 := Lib.hid (HB9.out.trans (hbk.mono HB9.out.size))
                    obtain ⟨x0, x1, x2, x3⟩ := hnb10.cells
                    obtain ⟨y0, y1, y2, y3⟩ := hna10.cells
                    have f0 := hna10.free 0
                    have f1 := hna10.free 1
                    have f2 := hna10.free 2
                    have f3 := hna10.free 3
                    have hqb : q ≤ 100 := by have := HQS.out; omega
                    have hsb : (s + 1) ≤ 100 := by omega
                    have HREL := Lib.hid (show (NetAt (put wr g (.int .i64 ((i : Int) + 1)) (.slice A5 L.length c5) (.int .i64 far) (.slice B5 us.length d5)) g ((i : Int) + 1) L far us A5 c5 B5 d5) ∧ Below w.heap.size w (put wr g (.int .i64 ((i : Int) + 1)) (.slice A5 L.length c5) (.int .i64 far) (.slice B5 us.length d5)) from ⟨hna10.put hnb10.2.1 hnb10.2.2, put_below HB10.out hgw⟩)
                    clear hbk hna10 hnb10
                    go_wp2
                    go_roundw
                    case rel => exact ⟨i + 1, (s + 1), q + ts.length, us, A5, c5, B5, d5, by omega, by go_num, by go_num, by go_num, show _ = _ by have := HQS.out; have := HCUT.out; omega, by omega, by omega, HRU3, HREL.out.1, HREL.out.2⟩
                    case measure => simp [intOf]; omega
            · skip
              have HTK := Lib.hid (implTick_at HNA.out HRU.out.small)
              rw [HRU.out.tick] at HTK
              have HRU2 := Lib.hid (HRU.out.tock (by omega))
              obtain ⟨y0, y1, y2, y3⟩ := HNA.out.cells
              go_wp2_with fail
              refine HTK.out.mono ?_
              rintro e w3 ⟨A3, c3, B3, d3, rfl, hoi3, hol3, hb3⟩
              have hna3 := HNA.out.below hb3
              have HB3 := Lib.hid (HBW.out.trans (hb3.mono HBW.out.size))
              clear y0 y1 y2 y3 HTK
              obtain ⟨y0, y1, y2, y3⟩ := hna3.cells
              have f0 := hna3.free 0
              have f1 := hna3.free 1
              have f2 := hna3.free 2
              have f3 := hna3.free 3
              go_upto_region 27 with fail
              obtain ⟨W3, hW3⟩ : ∃ W3, W3 = ((((w3.setCell ⟨g, 0, none⟩ (.int .i64 ((i : Int) + 1))).setCell ⟨g, 1, none⟩ (.slice A3 L.length c3)).setCell ⟨g, 2, none⟩ (.int .i64 far)).setCell ⟨g, 3, none⟩ (.slice B3 ls.length d3)) := ⟨_, rfl⟩
              rw [← hW3]
              have hna4 : NetAt W3 g ((i : Int) + 1) L far ls A3 c3 B3 d3 := by rw [hW3]; exact hna3.put hoi3 hol3
              have HBW4 := Lib.hid (show Below w.heap.size w W3 by rw [hW3]; exact put_below HB3.out hgw)
              clear hna3 hoi3 hol3 hb3 hW3 y0 y1 y2 y3 f0 f1 f2 f3
              have hdl := HRU2.out.dlv
              have HD1 := Lib.hid (implDlv_at hna4 HRU2.out.small hdl)
              have HD2 := Lib.hid (fun W (hW : NetAt W g ((i : Int) + 1) L far ls A3 c3 B3 d3) => specDlv_at hW HRU2.out.small hdl)
              obtain ⟨us, hus⟩ : ∃ us, us = ls.drop (dueK ls ((i : Int) + 1)) := ⟨_, rfl⟩
              obtain ⟨ts, hts⟩ : ∃ ts, ts = ls.take (dueK ls ((i : Int) + 1)) := ⟨_, rfl⟩
              have HCUT := Lib.hid (show ts.length + us.length = ls.length by rw [hus, hts]; exact cut_len _ _)
              have HRU3 := Lib.hid (show Run ((i : Int) + 1) L far us ((i : Int) + 1 + 1) 31 by rw [hus]; exact HRU2.out.left)
              have hsub : ∀ x ∈ ts, x ∈ ls := fun x hx => by rw [hts] at hx; exact List.mem_of_mem_take hx
              have HTS := Lib.hid (show ∀ j (h : j < ts.length), ts[j].2.2.1 = (i : Int) + 1 by
                intro j hj
                have h1 : ts[j].2.2.1 ≤ (i : Int) + 1 := by subst hts; exact take_due j hj
                have h2 := (HRU2.out.lets.2 ts[j] (hsub _ (List.getElem_mem hj))).2.1
                omega)
              rw [← hus, ← hts] at HD1 HD2
              have HNA4 := Lib.hid hna4
              have HTL := Lib.hid (show ts.length ≤ 100 by have := HCUT.out; have := HRU2.out.few; omega)
              clear hsub hus hts hdl hna4 HNA HRU HBW HB3
              obtain ⟨y0, y1, y2, y3⟩ := HNA4.out.cells
              go_wp2_with fail
              refine HD1.out.mono ?_
              rintro e w5 ⟨A5, c5, B5, d5, D5, e5, rfl, hoi5, hol5, hot5, hb5⟩
              clear y0 y1 y2 y3 HD1
              have hna5 := HNA4.out.below hb5
              have HB5 := Lib.hid (HBW4.out.trans (hb5.mono HBW4.out.size))
              have hb6 := below1 w5 (.cells #[.int .i64 ((i : Int) + 1), .slice A5 L.length c5, .int .i64 far, .slice B5 us.length d5] 35)
              have hna6 := hna5.below hb6
              have hnb6 := NetAt.new (t := (i : Int) + 1) (far := far) hoi5 hol5
              have hot6 := (hot5.since hb6 (Nat.le_refl _)).wider (Nat.le_refl _) hb6.size
              have HB6 := Lib.hid (HB5.out.trans (hb6.mono HB5.out.size))
              go_upto_region 28 with fail
              obtain ⟨g5, hg5⟩ : ∃ g5, g5 = w5.heap.size := ⟨_, rfl⟩
              obtain ⟨W5, hW5⟩ : ∃ W5, W5 = w5.alloc (.cells #[.int .i64 ((i : Int) + 1), .slice A5 L.length c5, .int .i64 far, .slice B5 us.length d5] 35) := ⟨_, rfl⟩
              rw [← hW5]
              rw [← hW5] at hna6 hnb6 hot6 HB6
              rw [← hg5] at hnb6 ⊢
              have HG5 := Lib.hid (show g < g5 by rw [hg5]; exact hna5.lt)
              have HNA6 := Lib.hid hna6
              have HNB6 := Lib.hid hnb6
              have HOT6 := Lib.hid hot6
              clear hna5 hb5 hb6 hna6 hnb6 hot6 hoi5 hol5 hot5 hW5 hg5 HNA4 HBW4 HB5
              obtain ⟨y0, y1, y2, y3⟩ := HNA6.out.cells
              go_wp2_with fail
              refine (HD2.out _ HNA6.out).mono ?_
              rintro e w7 ⟨A7, c7, B7, d7, D7, e7, rfl, hoi7, hol7, hot7, hb7⟩
              clear y0 y1 y2 y3 HD2
              have hb8 := below1 w7 (.cells #[.int .i64 ((i : Int) + 1), .slice A7 L.length c7, .int .i64 far, .slice B7 us.length d7] 35)
              have hna8 := (HNA6.out.below hb7).below hb8
              have hnb8 := (HNB6.out.below hb7).below hb8
              have hnc8 := NetAt.new (t := (i : Int) + 1) (far := far) hoi7 hol7
              have hot8 := (((HOT6.out.since hb7 (Nat.le_refl _)).wider (Nat.le_refl _) hb7.size).since hb8 (Nat.le_refl _)).wider (Nat.le_refl _) hb8.size
              have hou8 := (hot7.since hb8 (Nat.le_refl _)).wider (Nat.le_refl _) hb8.size
              have HB8 := Lib.hid (HB6.out.trans ((hb7.trans (hb8.mono hb7.size)).mono HB6.out.size))
              go_upto_region 29 with fail
              obtain ⟨g7, hg7⟩ : ∃ g7, g7 = w7.heap.size := ⟨_, rfl⟩
              obtain ⟨W7, hW7⟩ : ∃ W7, W7 = w7.alloc (.cells #[.int .i64 ((i : Int) + 1), .slice A7 L.length c7, .int .i64 far, .slice B7 us.length d7] 35) := ⟨_, rfl⟩
              rw [← hW7]
              rw [← hW7] at hna8 hnb8 hnc8 hot8 hou8 HB8
              rw [← hg7] at hnc8 ⊢
              have HNA8 := Lib.hid hna8
              have HNB8 := Lib.hid hnb8
              have HOT8 := Lib.hid hot8
              have HVN := Lib.hid (vNet_at hnb8 hnc8 HRU3.out.small)
              have HVL := Lib.hid (fun W (hW : Below W7.heap.size W7 W) => vLetters_same D5 D7 ts.length e5 e7 ts W.heap.size W rfl ((hot8.since hW (Nat.le_refl _)).lets.mono hW.size) ((hou8.since hW (Nat.le_refl _)).lets.mono hW.size) (Nat.le_refl _) (by have := HTL.out; omega))
              obtain ⟨x0, x1, x2, x3⟩ := hnb8.cells
              obtain ⟨z0, z1, z2, z3⟩ := hnc8.cells
              clear hb7 hb8 hna8 hnb8 hnc8 hot8 hou8 hoi7 hol7 hot7 hW7 hg7 HNA6 HNB6 HOT6 HB6
              go_wp2_with fail
              refine HVN.out.mono ?_
              rintro e w9 ⟨rfl, hb9⟩
              clear x0 x1 x2 x3 z0 z1 z2 z3 HVN
              go_wp2_with fail
              refine (HVL.out _ hb9).mono ?_
              rintro e w10 ⟨rfl, hb10⟩
              have hbb := hb9.trans (hb10.mono hb9.size)
              have HNA9 := Lib.hid (HNA8.out.below hbb)
              have HNB9 := Lib.hid (HNB8.out.below hbb)
              have HOT9 := Lib.hid ((HOT8.out.since hbb (Nat.le_refl _)).lets.mono hbb.size)
              have HB9 := Lib.hid (HB8.out.trans (hbb.mono HB8.out.size))
              clear hb9 hb10 hbb HVL HNA8 HNB8 HOT8 HB8
              go_wp2_with fail
              obtain ⟨WI, hWI⟩ : ∃ WI : World, WI = w10 := ⟨_, rfl⟩
              rw [← hWI] at HNA9 HNB9 HOT9 HB9
              have htl := HTL.out
              go_loopw [27] (fun j wr => ∃ k : Nat, k ≤ ts.length ∧ j = .int .i64 (k : Int) ∧ Below WI.heap.size WI wr) (fun j _ => ts.length - (intOf j).toNat)
              case atStart => exact ⟨0, by omega, rfl, by rw [← hWI]; exact Below.refl _ _⟩
              case round =>
                obtain ⟨k, hk, rfl, hbk⟩ := hrel
                by_cases hlk : k < ts.length
                · obtain ⟨b, off, rfl, hbB, hc⟩ := HOT9.out.get (by omega)
                  have hc2 := (hc k hlk).2.2.1
                  rw [HTS.out k hlk] at hc2
                  have c2 := (hbk.cell (p := ⟨b, off + k * 4 + 2, none⟩) hbB).trans hc2
                  obtain ⟨y0, y1, y2, y3⟩ := (HNA9.out.below hbk).cells
                  have hk0 : (0 : Int) ≤ (k : Int) := by omega
                  have hkn : (k : Int) < (ts.length : Int) := by omega
                  have HBK := Lib.hid hbk
                  clear hc hc2 hbk
                  go_wp2_with fail
                  go_quiet (fail)
                  go_wp2
                  go_roundw
                  case rel => exact ⟨k + 1, by omega, by go_num, below_drewN HBK.out _⟩
                  case measure => simp [intOf]; omega
                · have hna10 := HNA9.out.below hbk
                  have hnb10 := HNB9.out.below hbk
                  have HB10 := Lib.hid (HB9.out.trans (hbk.mono HB9.out.size))
                  obtain ⟨x0, x1, x2, x3⟩ := hnb10.cells
                  obtain ⟨y0, y1, y2, y3⟩ := hna10.cells
                  have f0 := hna10.free 0
                  have f1 := hna10.free 1
                  have f2 := hna10.free 2
                  have f3 := hna10.free 3
                  have hqb : q ≤ 100 := by have := HQS.out; omega
                  have hsb : s ≤ 100 := by omega
                  have HREL := Lib.hid (show (NetAt (put wr g (.int .i64 ((i : Int) + 1)) (.slice A5 L.length c5) (.int .i64 far) (.slice B5 us.length d5)) g ((i : Int) + 1) L far us A5 c5 B5 d5) ∧ Below w.heap.size w (put wr g (.int .i64 ((i : Int) + 1)) (.slice A5 L.length c5) (.int .i64 far) (.slice B5 us.length d5)) from ⟨hna10.put hnb10.2.1 hnb10.2.2, put_below HB10.out hgw⟩)
                  clear hbk hna10 hnb10
                  go_wp2
                  go_roundw
                  case rel => exact ⟨i + 1, s, q + ts.length, us, A5, c5, B5, d5, by omega, by go_num, by go_num, by go_num, show _ = _ by have := HQS.out; have := HCUT.out; omega, by omega, by omega, HRU3, HREL.out.1, HREL.out.2⟩
                  case measure => simp [intOf]; omega
          · have hi : i = 40 := by omega
            subst hi
            have hls : ls = [] := HRU.out.lets.none (by omega)
            subst hls
            obtain ⟨y0, y1, y2, y3⟩ := hna.cells
            have hqs := HQS.out
            simp only [List.length_nil, Nat.add_zero] at hqs y3
            subst hqs
            have hb9 := hbw
            clear hna hbw HRU HQS
            go_wp2
            go_ret
            exact ⟨by simp, hb9⟩
  · have HV := Lib.hid (fun W => vBig_yes A n c W (by omega))
    clear hn h hm
    go_enter Try.func8, Try.ntmps8
    go_wp2_with fail
    refine (HV.out _).mono ?_
    rintro e w1 ⟨rfl, rfl⟩
    go_wp2
    go_ret
    exact ⟨rfl, Below.refl _ _⟩
end Go.Proofs.Ytojplmjoipjabaa.Fs
