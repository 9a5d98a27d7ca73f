/-
  Deliver of the model.
-/
import Derived.Test.YtojplmjoipjabaaNtG3
namespace Go.Proofs.Ytojplmjoipjabaa.Nt
open Go.RowKit
set_option linter.unusedVariables false
set_option linter.unusedSimpArgs false

set_option maxRecDepth 100000 in
set_option maxHeartbeats 4000000 in
theorem specDeliver_any (now far : Int) (A A' : Option Addr) (n c n' c' : Nat) (is : List Int) (ls : List (Int × Int × Int × ByteArray)) (B : Nat) (w : World) (hn : is.length = n) (hn' : ls.length = n') (h : IntsB w B A is) (h' : LetsB w B A' ls) (hB : B ≤ w.heap.size) (hm : LSmall ls) (hl : n ≤ 1048576) (hcap : n' ≤ c' ∧ c' ≤ maxLen) :
    Calls Try.prog 38 #[.agg #[.int .i64 now, .slice A n c, .int .i64 far, .slice A' n' c']] w (DlvPost (dlvA now is far ls) w) := by
  have hb0 := below2 w (.cells #[.int .i64 now, .slice A n c, .int .i64 far, .slice A' n' c'] 35) (.cells #[.int .i64 0, .slice none 0 0, .int .i64 0, .slice none 0 0] 35)
  have hk0 : ((w.alloc (.cells #[.int .i64 now, .slice A n c, .int .i64 far, .slice A' n' c'] 35)).alloc (.cells #[.int .i64 0, .slice none 0 0, .int .i64 0, .slice none 0 0] 35)).heap[w.heap.size]? = some (.cells #[.int .i64 now, .slice A n c, .int .i64 far, .slice A' n' c'] 35 (0, 0)) := ((below1 (w.alloc (.cells #[.int .i64 now, .slice A n c, .int .i64 far, .slice A' n' c'] 35)) (.cells #[.int .i64 0, .slice none 0 0, .int .i64 0, .slice none 0 0] 35)).block w.heap.size (by simp)).trans (heap_alloc_new w (.cells #[.int .i64 now, .slice A n c, .int .i64 far, .slice A' n' c'] 35))
  have hr0 := alloc_snd w (.cells #[.int .i64 now, .slice A n c, .int .i64 far, .slice A' n' c'] 35) (.cells #[.int .i64 0, .slice none 0 0, .int .i64 0, .slice none 0 0] 35)
  have HT := Lib.hid (fun W (hW : Below w.heap.size w W) => l7Good_any now far A A' n c n' c' is ls B W hn hn' (h.below (hW.mono hB)) (h'.below (hW.mono hB)) (Nat.le_trans hB hW.size) hm hl)
  cases g1 : netB now is far ls with
  | false =>
    rw [g1] at HT
    have HNA := Lib.hid (show dlvA now is far ls = (noA, []) by unfold dlvA; rw [g1]; simp)
    clear h h' hm hn hn' g1
    go_enter Try.func38, Try.ntmps38
    go_wp2_with fail
    refine (HT.out _ hb0).mono ?_
    rintro e w1 ⟨rfl, ha1⟩
    have hk1 := (ha1.block w.heap.size (lt_blk hk0)).trans hk0
    have hr1 := (ha1.block (w.heap.size + 1) (lt_blk hr0)).trans hr0
    have hb1 := hb0.trans (ha1.mono hb0.size)
    have k10 := cell_of_row _ _ 0 _ 35 (0, 0) hk1
    have k11 := cell_of_row _ _ 1 _ 35 (0, 0) hk1
    have k12 := cell_of_row _ _ 2 _ 35 (0, 0) hk1
    have k13 := cell_of_row _ _ 3 _ 35 (0, 0) hk1
    have r10 := cell_of_row _ _ 0 _ 35 (0, 0) hr1
    have f10 := free_blk hr1 0
    have r11 := cell_of_row _ _ 1 _ 35 (0, 0) hr1
    have f11 := free_blk hr1 1
    have r12 := cell_of_row _ _ 2 _ 35 (0, 0) hr1
    have f12 := free_blk hr1 2
    have r13 := cell_of_row _ _ 3 _ 35 (0, 0) hr1
    have f13 := free_blk hr1 3
    clear ha1 hk0 hr0 hb0
    have hl1 := lt_blk hr1
    obtain ⟨V, hV⟩ : ∃ V, V = ((((w1.setCell ⟨w.heap.size + 1, 0, none⟩ (.int .i64 0)).setCell ⟨w.heap.size + 1, 1, none⟩ (.slice none 0 0)).setCell ⟨w.heap.size + 1, 2, none⟩ (.int .i64 0)).setCell ⟨w.heap.size + 1, 3, none⟩ (.slice none 0 0)) := ⟨_, rfl⟩
    have hVz : V.heap.size = w1.heap.size := by rw [hV]; simp [World.setCell]
    have hVb : Below w.heap.size w V := by rw [hV]; exact bel_put4 hb1 (by omega)
    have haE := below1 V (.cells #[] 66)
    have hoE := own_empty V w.heap.size 66 4 hVb.size
    have v0 : (V.alloc (.cells #[] 66)).cell? ⟨w.heap.size + 1, 0, none⟩ = some (.int .i64 0) := (haE.cell (p := ⟨w.heap.size + 1, 0, none⟩) (by rw [hVz]; exact hl1)).trans (by rw [hV]; simp [go_sem, r10, f10, r11, f11, r12, f12, r13, f13])
    have v1 : (V.alloc (.cells #[] 66)).cell? ⟨w.heap.size + 1, 1, none⟩ = some (.slice none 0 0) := (haE.cell (p := ⟨w.heap.size + 1, 1, none⟩) (by rw [hVz]; exact hl1)).trans (by rw [hV]; simp [go_sem, r10, f10, r11, f11, r12, f12, r13, f13])
    have v2 : (V.alloc (.cells #[] 66)).cell? ⟨w.heap.size + 1, 2, none⟩ = some (.int .i64 0) := (haE.cell (p := ⟨w.heap.size + 1, 2, none⟩) (by rw [hVz]; exact hl1)).trans (by rw [hV]; simp [go_sem, r10, f10, r11, f11, r12, f12, r13, f13])
    have v3 : (V.alloc (.cells #[] 66)).cell? ⟨w.heap.size + 1, 3, none⟩ = some (.slice none 0 0) := (haE.cell (p := ⟨w.heap.size + 1, 3, none⟩) (by rw [hVz]; exact hl1)).trans (by rw [hV]; simp [go_sem, r10, f10, r11, f11, r12, f12, r13, f13])
    have HBE := Lib.hid (hVb.trans (haE.mono hVb.size))
    have HOE := Lib.hid (ownL_of (us := []) hoE (by simp) rfl)
    clear hb1 hk1 haE hr1 hoE hVb
    go_wp2
    rw [← hV]
    exact bodyPost_ret (v := .tuple #[.agg #[.int .i64 0, .slice none 0 0, .int .i64 0, .slice none 0 0], .slice (some ⟨V.heap.size, 0, none⟩) 0 0, .bool false]) (by simp [results, Try.results38, go_sem, v0, v1, v2, v3]) rfl (by
      rw [HNA.out]
      obtain ⟨A9, c9, hv9, ho9⟩ := HOE.out
      obtain ⟨rfl, _, rfl⟩ : some ⟨V.heap.size, 0, none⟩ = A9 ∧ 0 = 0 ∧ 0 = c9 := by simpa using hv9
      exact ⟨none, 0, none, 0, _, _, rfl, .inl ⟨rfl, rfl, rfl⟩, .inl ⟨rfl, rfl, rfl⟩, ho9, (fun x y hx => by cases hx), HBE.out⟩)
  | true =>
    rw [g1] at HT
    obtain ⟨gt, gh, gf, gl, gu⟩ := netB_true g1
    obtain ⟨gh1, gh5, ghh⟩ := homesB_true gh
    have gf2 := inB_true gf
    have gt2 := inB_true gt
    have hasc := undB_asc gu
    rw [hn'] at gl
    have HLS := Lib.hid h'
    have HIS := Lib.hid h
    have HN := Lib.hid hn
    have hge := Nat.le_of_eq hn'
    have hle := Nat.le_of_eq hn'.symm
    obtain ⟨hcap1, hcap2⟩ := hcap
    have hc64 : (c' : Int) ≤ 9223372036854775807 := by unfold maxLen at hcap2; omega
    have HG1 := Lib.hid g1
    clear h h' hn hn' g1 gt gh gf gu gh1 gh5 ghh gf2 hm hasc
    go_enter Try.func38, Try.ntmps38
    go_wp2_with fail
    refine (HT.out _ hb0).mono ?_
    rintro e w1 ⟨rfl, ha1⟩
    have hk1 := (ha1.block w.heap.size (lt_blk hk0)).trans hk0
    have hr1 := (ha1.block (w.heap.size + 1) (lt_blk hr0)).trans hr0
    have hb1 := hb0.trans (ha1.mono hb0.size)
    have k10 := cell_of_row _ _ 0 _ 35 (0, 0) hk1
    have k11 := cell_of_row _ _ 1 _ 35 (0, 0) hk1
    have k12 := cell_of_row _ _ 2 _ 35 (0, 0) hk1
    have k13 := cell_of_row _ _ 3 _ 35 (0, 0) hk1
    have r10 := cell_of_row _ _ 0 _ 35 (0, 0) hr1
    have f10 := free_blk hr1 0
    have r11 := cell_of_row _ _ 1 _ 35 (0, 0) hr1
    have f11 := free_blk hr1 1
    have r12 := cell_of_row _ _ 2 _ 35 (0, 0) hr1
    have f12 := free_blk hr1 2
    have r13 := cell_of_row _ _ 3 _ 35 (0, 0) hr1
    have f13 := free_blk hr1 3
    clear ha1 hk0 hr0 hb0
    have hgl := lt_blk hk1
    have hrl := lt_blk hr1
    have HB1 := Lib.hid hb1
    have HK1 := Lib.hid hk1
    have HR1 := Lib.hid hr1
    clear hb1 hk1 hr1 r10 r11 r12 r13 f10 f11 f12 f13
    go_wp2_with fail
    go_loopw [5] (fun i wr => ∃ k : Nat, k ≤ n' ∧ i = .int .i64 k ∧ Hid (∀ j (h : j < ls.length), j < k → ls[j].2.2.1 ≤ now) ∧ Hid (Below w1.heap.size w1 wr)) (fun i _ => n' - (intOf i).toNat)
    case atStart => exact ⟨0, by omega, rfl, fun j h hj => absurd hj (Nat.not_lt_zero j), Below.refl _ _⟩
    case round =>
      obtain ⟨k, hk, rfl, HP, HBW⟩ := hrel
      have y0 : wr.cell? ⟨w.heap.size, 0, none⟩ = some (.int .i64 now) := (HBW.out.cell (p := ⟨w.heap.size, 0, none⟩) hgl).trans k10
      have y1 : wr.cell? ⟨w.heap.size, 1, none⟩ = some (.slice A n c) := (HBW.out.cell (p := ⟨w.heap.size, 1, none⟩) hgl).trans k11
      have y2 : wr.cell? ⟨w.heap.size, 2, none⟩ = some (.int .i64 far) := (HBW.out.cell (p := ⟨w.heap.size, 2, none⟩) hgl).trans k12
      have y3 : wr.cell? ⟨w.heap.size, 3, none⟩ = some (.slice A' n' c') := (HBW.out.cell (p := ⟨w.heap.size, 3, none⟩) hgl).trans k13
      clear k10 k11 k12 k13
      have hk0 : (0 : Int) ≤ (k : Int) := by omega
      by_cases hlt : k < n'
      · obtain ⟨bb, off, hA, hbB, hcl⟩ := HLS.out.get (by omega)
        subst hA
        obtain ⟨hc0, hc1, hc2, hc3⟩ := hcl k (by omega)
        have hbw : bb < w.heap.size := Nat.lt_of_lt_of_le hbB hB
        have c2 := ((HB1.out.trans (HBW.out.mono HB1.out.size)).cell (p := ⟨bb, off + k * 4 + 2, none⟩) hbw).trans hc2
        have hkn : (k : Int) < (n' : Int) := by omega
        by_cases hd : (ls[k]'(by omega)).2.2.1 ≤ now
        · have HP2 := Lib.hid (show ∀ j (h : j < ls.length), j < k + 1 → ls[j].2.2.1 ≤ now from fun j h hj => by
            rcases Nat.lt_or_ge j k with h1 | h1
            · exact HP.out j h h1
            · have : j = k := by omega
              subst this; exact hd)
          obtain ⟨dd, hdd⟩ : ∃ dd, dd = (ls[k]'(by omega)).2.2.1 := ⟨_, rfl⟩
          rw [← hdd] at c2 hd
          clear hdd hc0 hc1 hc2 hc3 hcl
          go_wp2_with fail
          go_quiet (fail)
          go_wp2
          go_roundw
          case rel => exact ⟨k + 1, by omega, by go_num, HP2, below_drewN HBW.out _⟩
          case measure => simp [intOf]; omega
        · have HK := Lib.hid (show dueK ls now = k from dueK_eq (by omega) HP.out (fun h => by omega))
          have hdf : decide ((ls[k]'(by omega)).2.2.1 ≤ now) = false := by simpa using hd
          obtain ⟨dd, hdd⟩ : ∃ dd, dd = (ls[k]'(by omega)).2.2.1 := ⟨_, rfl⟩
          rw [← hdd] at c2 hdf
          have HPT := Lib.hid (show LetsB w B (some ⟨bb, off + k * 4, none⟩) (ls.drop k) by simpa using HLS.out.part k (by omega))
          have hck : ¬ (c' = k) := by omega
          have hck0 : ¬ (c' = 0) := by omega
          clear hdd hc0 hc1 hc2 hc3 hcl hd
          have HS := Lib.hid (show dlvA now is far ls = ((now, is, far, ls.drop k, true), ls.take k) by unfold dlvA; rw [HG1.out, if_pos rfl, HK.out])
          go_wp2_with fail
          go_quiet (fail)
          go_wp2_with fail
          obtain ⟨W1, hW1⟩ : ∃ W1, W1 = wr.drewN nq := ⟨_, rfl⟩
          have hbw1 : Below w1.heap.size w1 W1 := by rw [hW1]; first | exact HBW.out | exact below_drewN HBW.out _
          rw [← hW1]
          clear hW1 y0 y1 y2 y3
          have hk2 := (hbw1.block w.heap.size hgl).trans HK1.out
          have hr2 := (hbw1.block (w.heap.size + 1) hrl).trans HR1.out
          have hb2 := HB1.out.trans (hbw1.mono HB1.out.size)
          have k20 := cell_of_row _ _ 0 _ 35 (0, 0) hk2
          have r20 := cell_of_row _ _ 0 _ 35 (0, 0) hr2
          have f20 := free_blk hr2 0
          have k21 := cell_of_row _ _ 1 _ 35 (0, 0) hk2
          have r21 := cell_of_row _ _ 1 _ 35 (0, 0) hr2
          have f21 := free_blk hr2 1
          have k22 := cell_of_row _ _ 2 _ 35 (0, 0) hk2
          have r22 := cell_of_row _ _ 2 _ 35 (0, 0) hr2
          have f22 := free_blk hr2 2
          have k23 := cell_of_row _ _ 3 _ 35 (0, 0) hk2
          have r23 := cell_of_row _ _ 3 _ 35 (0, 0) hr2
          have f23 := free_blk hr2 3
          have K0 : W1.cell? ⟨w.heap.size, 0, none⟩ = some (.int .i64 now) := k20
          have R0 : W1.cell? ⟨w.heap.size + 1, 0, none⟩ = some (.int .i64 0) := r20
          have K1 : W1.cell? ⟨w.heap.size, 1, none⟩ = some (.slice A n c) := k21
          have R1 : W1.cell? ⟨w.heap.size + 1, 1, none⟩ = some (.slice none 0 0) := r21
          have K2 : W1.cell? ⟨w.heap.size, 2, none⟩ = some (.int .i64 far) := k22
          have R2 : W1.cell? ⟨w.heap.size + 1, 2, none⟩ = some (.int .i64 0) := r22
          have K3 : W1.cell? ⟨w.heap.size, 3, none⟩ = some (.slice (some ⟨bb, off, none⟩) n' c') := k23
          have R3 : W1.cell? ⟨w.heap.size + 1, 3, none⟩ = some (.slice none 0 0) := r23
          clear k20 k21 k22 k23 r20 r21 r22 r23
          have hgl2 := lt_blk hk2
          have hrl2 := lt_blk hr2
          have hne : w.heap.size ≠ w.heap.size + 1 := by omega
          have hbel := Below.refl W1.heap.size W1
          have HBW2 := Lib.hid hb2
          have hlt1 : (ls.take k).length = k := by rw [List.length_take]; omega
          have hlt2 : (ls.drop k).length = n' - k := by rw [List.length_drop]; omega
          have HLT1 := Lib.hid hlt1
          have HLT2 := Lib.hid hlt2
          have hown := fun (v : World) (hv : Below W1.heap.size W1 v) => l7Own_any now far A (some ⟨bb, off, none⟩) (some ⟨bb, off + k * 4, none⟩) n c n' c' (n' - k) (c' - k) is (ls.drop k) B v HN.out hlt2 (HIS.out.below ((hb2.trans (hv.mono hb2.size)).mono hB)) (HPT.out.below ((hb2.trans (hv.mono hb2.size)).mono hB)) (Nat.le_trans hB (hb2.trans (hv.mono hb2.size)).size) (by omega) (by omega)
          unfold NetV at hown
          simp only [HN.out, hlt2] at hown
          have HOWN := Lib.hid hown
          have HL := Lib.hid (fun v (hv : Below W1.heap.size W1 v) => l7OwnL_any (some ⟨bb, off, none⟩) k c' (ls.take k) B v hlt1 ((HLS.out.head k).below ((hb2.trans (hv.mono hb2.size)).mono hB)) (Nat.le_trans hB (hb2.trans (hv.mono hb2.size)).size) (by omega))
          have HS0 : W1.drew.cell? ⟨w.heap.size, 0, none⟩ = some (.int .i64 now) ∧ W1.drew.cell? ⟨w.heap.size, 1, none⟩ = some (.slice A n c) ∧ W1.drew.cell? ⟨w.heap.size, 2, none⟩ = some (.int .i64 far) ∧ W1.drew.cell? ⟨w.heap.size, 3, none⟩ = some (.slice (some ⟨bb, off, none⟩) n' c') := ⟨K0, K1, K2, K3⟩
          have hkc : (k : Int) ≤ (c' : Int) := by omega
          have hkc2 : k ≤ c' := by omega
          have hkn2 : (k : Int) ≤ (n' : Int) := by omega
          have htk : ((k : Nat) : Int).toNat = k := by omega
          have hlow : w.heap.size + 1 < W1.heap.size := hrl2
          clear hown hk2 hr2 hb2 hbw1 HBW HP HK HG1 hlt1 hlt2
          go_region_held3 (fun w' => w'.cell? ⟨w.heap.size, 0, none⟩ = some (.int .i64 now) ∧ w'.cell? ⟨w.heap.size, 1, none⟩ = some (.slice A n c) ∧ w'.cell? ⟨w.heap.size, 2, none⟩ = some (.int .i64 far) ∧ w'.cell? ⟨w.heap.size, 3, none⟩ = some (.slice (some ⟨bb, off, none⟩) n' c'))
            (first | with_reducible exact HS0 | with_reducible exact ⟨kept2 hB1 K0 hgl2, kept2 hB1 K1 hgl2, kept2 hB1 K2 hgl2, kept2 hB1 K3 hgl2⟩ | with_reducible exact ⟨kept2 hB2 K0 hgl2, kept2 hB2 K1 hgl2, kept2 hB2 K2 hgl2, kept2 hB2 K3 hgl2⟩ | with_reducible exact ⟨(put4_cell hne).trans (kept2 hB2 K0 hgl2), (put4_cell hne).trans (kept2 hB2 K1 hgl2), (put4_cell hne).trans (kept2 hB2 K2 hgl2), (put4_cell hne).trans (kept2 hB2 K3 hgl2)⟩ | fail)
            (first
              | (go_at_call 79; (with_reducible refine (HOWN.out _ hbel.drew).mono ?_); rintro e v1 ⟨A3, c3, A4, c4, rfl, hoiF, holF, ha1⟩; have hB1 : Below W1.heap.size W1 v1 := below_d0 ha1; have hoi : OwnI v1 W1.heap.size v1.heap.size A3 c3 is := hoiF; have hol : OwnL v1 W1.heap.size v1.heap.size A4 c4 (ls.drop k) := holF)
              | (go_at_call 84; (with_reducible refine (HL.out v1 hB1).mono ?_); rintro e v2 ⟨A5, c5, rfl, ho5, ha2⟩; have hB2 : Below W1.heap.size W1 v2 := hB1.trans (ha2.mono hB1.size); have y0 := kept2 hB2 R0 hrl2; have z0 := keptF hB2 f20 hrl2; have y1 := kept2 hB2 R1 hrl2; have z1 := keptF hB2 f21 hrl2; have y2 := kept2 hB2 R2 hrl2; have z2 := keptF hB2 f22 hrl2; have y3 := kept2 hB2 R3 hrl2; have z3 := keptF hB2 f23 hrl2)
              | fail)
          have hz1 := hB1.size
          have hz2 := ha2.size
          have hz3 := HBW2.out.size
          have HAN := Lib.hid (show DlvPost (dlvA now is far ls) w (.returned (.tuple #[.agg #[.int .i64 now, .slice A3 n c3, .int .i64 far, .slice A4 (n' - k) c4], .slice A5 k c5, .bool true])) ((((v2.setCell ⟨w.heap.size + 1, 0, none⟩ (.int .i64 now)).setCell ⟨w.heap.size + 1, 1, none⟩ (.slice A3 n c3)).setCell ⟨w.heap.size + 1, 2, none⟩ (.int .i64 far)).setCell ⟨w.heap.size + 1, 3, none⟩ (.slice A4 (n' - k) c4)) by
            rw [HS.out]
            exact ⟨A3, c3, A4, c4, A5, c5, by simp only [HN.out, HLT1.out, HLT2.out], (OwnI.put4 (hoi.since ha2 (Nat.le_refl _)) (by omega)).wider (by omega) (by simp [World.setCell]; omega), (OwnL.put4 (hol.since ha2 (Nat.le_refl _)) (by omega)).wider (by omega) (by simp [World.setCell]; omega), (OwnL.put4 ho5 (by omega)).wider (by omega) (by simp [World.setCell]), (fun x y hx hy => by have e1 := (own_range hol x hx).2; have e2 := (own_range ho5 y hy).1; omega), bel_put4 (HBW2.out.trans (hB2.mono HBW2.out.size)) (by omega)⟩)
          clear hoiF holF hoi hol ho5 ha1 ha2 hB1 hB2 HS0 hz1 hz2 hz3 HOWN HL
          go_wp2
          exact bodyPost_ret (v := .tuple #[.agg #[.int .i64 now, .slice A3 n c3, .int .i64 far, .slice A4 (n' - k) c4], .slice A5 k c5, .bool true]) (by simp [results, Try.results38, go_sem, y0, y1, y2, y3, z0, z1, z2, z3]) rfl HAN.out
      · have hkn : n' = k := by omega
        have HK := Lib.hid (show dueK ls now = k from dueK_eq (by omega) HP.out (fun h => by omega))
        subst hkn
        have hkf : decide ((n' : Int) < (n' : Int)) = false := by simp
        clear hlt
        have hdr : ls.drop n' = [] := List.drop_eq_nil_of_le (by omega)
        rcases Option.eq_none_or_eq_some A' with hA | ⟨ad, hA⟩
        · subst hA
          have HPT := Lib.hid (show LetsB w B none (ls.drop n') by rw [hdr]; exact .inl rfl)
          clear hdr
          have HS := Lib.hid (show dlvA now is far ls = ((now, is, far, ls.drop n', true), ls.take n') by unfold dlvA; rw [HG1.out, if_pos rfl, HK.out])
          go_wp2_with fail
          go_quiet (fail)
          go_wp2_with fail
          obtain ⟨W1, hW1⟩ : ∃ W1, W1 = wr.drewN nq := ⟨_, rfl⟩
          have hbw1 : Below w1.heap.size w1 W1 := by rw [hW1]; first | exact HBW.out | exact below_drewN HBW.out _
          rw [← hW1]
          clear hW1 y0 y1 y2 y3
          have hk2 := (hbw1.block w.heap.size hgl).trans HK1.out
          have hr2 := (hbw1.block (w.heap.size + 1) hrl).trans HR1.out
          have hb2 := HB1.out.trans (hbw1.mono HB1.out.size)
          have k20 := cell_of_row _ _ 0 _ 35 (0, 0) hk2
          have r20 := cell_of_row _ _ 0 _ 35 (0, 0) hr2
          have f20 := free_blk hr2 0
          have k21 := cell_of_row _ _ 1 _ 35 (0, 0) hk2
          have r21 := cell_of_row _ _ 1 _ 35 (0, 0) hr2
          have f21 := free_blk hr2 1
          have k22 := cell_of_row _ _ 2 _ 35 (0, 0) hk2
          have r22 := cell_of_row _ _ 2 _ 35 (0, 0) hr2
          have f22 := free_blk hr2 2
          have k23 := cell_of_row _ _ 3 _ 35 (0, 0) hk2
          have r23 := cell_of_row _ _ 3 _ 35 (0, 0) hr2
          have f23 := free_blk hr2 3
          have K0 : W1.cell? ⟨w.heap.size, 0, none⟩ = some (.int .i64 now) := k20
          have R0 : W1.cell? ⟨w.heap.size + 1, 0, none⟩ = some (.int .i64 0) := r20
          have K1 : W1.cell? ⟨w.heap.size, 1, none⟩ = some (.slice A n c) := k21
          have R1 : W1.cell? ⟨w.heap.size + 1, 1, none⟩ = some (.slice none 0 0) := r21
          have K2 : W1.cell? ⟨w.heap.size, 2, none⟩ = some (.int .i64 far) := k22
          have R2 : W1.cell? ⟨w.heap.size + 1, 2, none⟩ = some (.int .i64 0) := r22
          have K3 : W1.cell? ⟨w.heap.size, 3, none⟩ = some (.slice none n' c') := k23
          have R3 : W1.cell? ⟨w.heap.size + 1, 3, none⟩ = some (.slice none 0 0) := r23
          clear k20 k21 k22 k23 r20 r21 r22 r23
          have hgl2 := lt_blk hk2
          have hrl2 := lt_blk hr2
          have hne : w.heap.size ≠ w.heap.size + 1 := by omega
          have hbel := Below.refl W1.heap.size W1
          have HBW2 := Lib.hid hb2
          have hlt1 : (ls.take n').length = n' := by rw [List.length_take]; omega
          have hlt2 : (ls.drop n').length = 0 := by rw [List.length_drop]; omega
          have HLT1 := Lib.hid hlt1
          have HLT2 := Lib.hid hlt2
          have hown := fun (v : World) (hv : Below W1.heap.size W1 v) => l7Own_any now far A none none n c n' c' (0) (c' - n') is (ls.drop n') B v HN.out hlt2 (HIS.out.below ((hb2.trans (hv.mono hb2.size)).mono hB)) (HPT.out.below ((hb2.trans (hv.mono hb2.size)).mono hB)) (Nat.le_trans hB (hb2.trans (hv.mono hb2.size)).size) (by omega) (by omega)
          unfold NetV at hown
          simp only [HN.out, hlt2] at hown
          have HOWN := Lib.hid hown
          have HL := Lib.hid (fun v (hv : Below W1.heap.size W1 v) => l7OwnL_any none n' c' (ls.take n') B v hlt1 ((HLS.out.head n').below ((hb2.trans (hv.mono hb2.size)).mono hB)) (Nat.le_trans hB (hb2.trans (hv.mono hb2.size)).size) (by omega))
          have HS0 : W1.drew.cell? ⟨w.heap.size, 0, none⟩ = some (.int .i64 now) ∧ W1.drew.cell? ⟨w.heap.size, 1, none⟩ = some (.slice A n c) ∧ W1.drew.cell? ⟨w.heap.size, 2, none⟩ = some (.int .i64 far) ∧ W1.drew.cell? ⟨w.heap.size, 3, none⟩ = some (.slice none n' c') := ⟨K0, K1, K2, K3⟩
          have hkc : (n' : Int) ≤ (c' : Int) := by omega
          have hkc2 : n' ≤ c' := by omega
          have hkn2 : (n' : Int) ≤ (n' : Int) := by omega
          have htk : ((n' : Nat) : Int).toNat = n' := by omega
          have hlow : w.heap.size + 1 < W1.heap.size := hrl2
          clear hown hk2 hr2 hb2 hbw1 HBW HP HK HG1 hlt1 hlt2
          go_region_held3 (fun w' => w'.cell? ⟨w.heap.size, 0, none⟩ = some (.int .i64 now) ∧ w'.cell? ⟨w.heap.size, 1, none⟩ = some (.slice A n c) ∧ w'.cell? ⟨w.heap.size, 2, none⟩ = some (.int .i64 far) ∧ w'.cell? ⟨w.heap.size, 3, none⟩ = some (.slice none n' c'))
            (first | with_reducible exact HS0 | with_reducible exact ⟨kept2 hB1 K0 hgl2, kept2 hB1 K1 hgl2, kept2 hB1 K2 hgl2, kept2 hB1 K3 hgl2⟩ | with_reducible exact ⟨kept2 hB2 K0 hgl2, kept2 hB2 K1 hgl2, kept2 hB2 K2 hgl2, kept2 hB2 K3 hgl2⟩ | with_reducible exact ⟨(put4_cell hne).trans (kept2 hB2 K0 hgl2), (put4_cell hne).trans (kept2 hB2 K1 hgl2), (put4_cell hne).trans (kept2 hB2 K2 hgl2), (put4_cell hne).trans (kept2 hB2 K3 hgl2)⟩ | fail)
            (first
              | (go_at_call 79; (with_reducible refine (HOWN.out _ hbel.drew).mono ?_); rintro e v1 ⟨A3, c3, A4, c4, rfl, hoiF, holF, ha1⟩; have hB1 : Below W1.heap.size W1 v1 := below_d0 ha1; have hoi : OwnI v1 W1.heap.size v1.heap.size A3 c3 is := hoiF; have hol : OwnL v1 W1.heap.size v1.heap.size A4 c4 (ls.drop n') := holF)
              | (go_at_call 84; (with_reducible refine (HL.out v1 hB1).mono ?_); rintro e v2 ⟨A5, c5, rfl, ho5, ha2⟩; have hB2 : Below W1.heap.size W1 v2 := hB1.trans (ha2.mono hB1.size); have y0 := kept2 hB2 R0 hrl2; have z0 := keptF hB2 f20 hrl2; have y1 := kept2 hB2 R1 hrl2; have z1 := keptF hB2 f21 hrl2; have y2 := kept2 hB2 R2 hrl2; have z2 := keptF hB2 f22 hrl2; have y3 := kept2 hB2 R3 hrl2; have z3 := keptF hB2 f23 hrl2)
              | fail)
          have hz1 := hB1.size
          have hz2 := ha2.size
          have hz3 := HBW2.out.size
          have HAN := Lib.hid (show DlvPost (dlvA now is far ls) w (.returned (.tuple #[.agg #[.int .i64 now, .slice A3 n c3, .int .i64 far, .slice A4 (0) c4], .slice A5 n' c5, .bool true])) ((((v2.setCell ⟨w.heap.size + 1, 0, none⟩ (.int .i64 now)).setCell ⟨w.heap.size + 1, 1, none⟩ (.slice A3 n c3)).setCell ⟨w.heap.size + 1, 2, none⟩ (.int .i64 far)).setCell ⟨w.heap.size + 1, 3, none⟩ (.slice A4 (0) c4)) by
            rw [HS.out]
            exact ⟨A3, c3, A4, c4, A5, c5, by simp only [HN.out, HLT1.out, HLT2.out], (OwnI.put4 (hoi.since ha2 (Nat.le_refl _)) (by omega)).wider (by omega) (by simp [World.setCell]; omega), (OwnL.put4 (hol.since ha2 (Nat.le_refl _)) (by omega)).wider (by omega) (by simp [World.setCell]; omega), (OwnL.put4 ho5 (by omega)).wider (by omega) (by simp [World.setCell]), (fun x y hx hy => by have e1 := (own_range hol x hx).2; have e2 := (own_range ho5 y hy).1; omega), bel_put4 (HBW2.out.trans (hB2.mono HBW2.out.size)) (by omega)⟩)
          clear hoiF holF hoi hol ho5 ha1 ha2 hB1 hB2 HS0 hz1 hz2 hz3 HOWN HL
          go_wp2
          exact bodyPost_ret (v := .tuple #[.agg #[.int .i64 now, .slice A3 n c3, .int .i64 far, .slice A4 (0) c4], .slice A5 n' c5, .bool true]) (by simp [results, Try.results38, go_sem, y0, y1, y2, y3, z0, z1, z2, z3]) rfl HAN.out
        · subst hA
          by_cases hck : n' = c'
          · subst hck
            have HPT := Lib.hid (show LetsB w B (some ad) (ls.drop n') by rw [hdr]; exact .inl rfl)
            clear hdr
            have HS := Lib.hid (show dlvA now is far ls = ((now, is, far, ls.drop n', true), ls.take n') by unfold dlvA; rw [HG1.out, if_pos rfl, HK.out])
            go_wp2_with fail
            go_quiet (fail)
            go_wp2_with fail
            obtain ⟨W1, hW1⟩ : ∃ W1, W1 = wr.drewN nq := ⟨_, rfl⟩
            have hbw1 : Below w1.heap.size w1 W1 := by rw [hW1]; first | exact HBW.out | exact below_drewN HBW.out _
            rw [← hW1]
            clear hW1 y0 y1 y2 y3
            have hk2 := (hbw1.block w.heap.size hgl).trans HK1.out
            have hr2 := (hbw1.block (w.heap.size + 1) hrl).trans HR1.out
            have hb2 := HB1.out.trans (hbw1.mono HB1.out.size)
            have k20 := cell_of_row _ _ 0 _ 35 (0, 0) hk2
            have r20 := cell_of_row _ _ 0 _ 35 (0, 0) hr2
            have f20 := free_blk hr2 0
            have k21 := cell_of_row _ _ 1 _ 35 (0, 0) hk2
            have r21 := cell_of_row _ _ 1 _ 35 (0, 0) hr2
            have f21 := free_blk hr2 1
            have k22 := cell_of_row _ _ 2 _ 35 (0, 0) hk2
            have r22 := cell_of_row _ _ 2 _ 35 (0, 0) hr2
            have f22 := free_blk hr2 2
            have k23 := cell_of_row _ _ 3 _ 35 (0, 0) hk2
            have r23 := cell_of_row _ _ 3 _ 35 (0, 0) hr2
            have f23 := free_blk hr2 3
            have K0 : W1.cell? ⟨w.heap.size, 0, none⟩ = some (.int .i64 now) := k20
            have R0 : W1.cell? ⟨w.heap.size + 1, 0, none⟩ = some (.int .i64 0) := r20
            have K1 : W1.cell? ⟨w.heap.size, 1, none⟩ = some (.slice A n c) := k21
            have R1 : W1.cell? ⟨w.heap.size + 1, 1, none⟩ = some (.slice none 0 0) := r21
            have K2 : W1.cell? ⟨w.heap.size, 2, none⟩ = some (.int .i64 far) := k22
            have R2 : W1.cell? ⟨w.heap.size + 1, 2, none⟩ = some (.int .i64 0) := r22
            have K3 : W1.cell? ⟨w.heap.size, 3, none⟩ = some (.slice (some ad) n' n') := k23
            have R3 : W1.cell? ⟨w.heap.size + 1, 3, none⟩ = some (.slice none 0 0) := r23
            clear k20 k21 k22 k23 r20 r21 r22 r23
            have hgl2 := lt_blk hk2
            have hrl2 := lt_blk hr2
            have hne : w.heap.size ≠ w.heap.size + 1 := by omega
            have hbel := Below.refl W1.heap.size W1
            have HBW2 := Lib.hid hb2
            have hlt1 : (ls.take n').length = n' := by rw [List.length_take]; omega
            have hlt2 : (ls.drop n').length = 0 := by rw [List.length_drop]; omega
            have HLT1 := Lib.hid hlt1
            have HLT2 := Lib.hid hlt2
            have hown := fun (v : World) (hv : Below W1.heap.size W1 v) => l7Own_any now far A (some ad) (some ad) n c n' n' (0) (0) is (ls.drop n') B v HN.out hlt2 (HIS.out.below ((hb2.trans (hv.mono hb2.size)).mono hB)) (HPT.out.below ((hb2.trans (hv.mono hb2.size)).mono hB)) (Nat.le_trans hB (hb2.trans (hv.mono hb2.size)).size) (by omega) (by omega)
            unfold NetV at hown
            simp only [HN.out, hlt2] at hown
            have HOWN := Lib.hid hown
            have HL := Lib.hid (fun v (hv : Below W1.heap.size W1 v) => l7OwnL_any (some ad) n' n' (ls.take n') B v hlt1 ((HLS.out.head n').below ((hb2.trans (hv.mono hb2.size)).mono hB)) (Nat.le_trans hB (hb2.trans (hv.mono hb2.size)).size) (by omega))
            have HS0 : W1.drew.cell? ⟨w.heap.size, 0, none⟩ = some (.int .i64 now) ∧ W1.drew.cell? ⟨w.heap.size, 1, none⟩ = some (.slice A n c) ∧ W1.drew.cell? ⟨w.heap.size, 2, none⟩ = some (.int .i64 far) ∧ W1.drew.cell? ⟨w.heap.size, 3, none⟩ = some (.slice (some ad) n' n') := ⟨K0, K1, K2, K3⟩
            have hkc : (n' : Int) ≤ (n' : Int) := by omega
            have hkc2 : n' ≤ n' := by omega
            have hkn2 : (n' : Int) ≤ (n' : Int) := by omega
            have htk : ((n' : Nat) : Int).toNat = n' := by omega
            have hlow : w.heap.size + 1 < W1.heap.size := hrl2
            clear hown hk2 hr2 hb2 hbw1 HBW HP HK HG1 hlt1 hlt2
            go_region_held3 (fun w' => w'.cell? ⟨w.heap.size, 0, none⟩ = some (.int .i64 now) ∧ w'.cell? ⟨w.heap.size, 1, none⟩ = some (.slice A n c) ∧ w'.cell? ⟨w.heap.size, 2, none⟩ = some (.int .i64 far) ∧ w'.cell? ⟨w.heap.size, 3, none⟩ = some (.slice (some ad) n' n'))
              (first | with_reducible exact HS0 | with_reducible exact ⟨kept2 hB1 K0 hgl2, kept2 hB1 K1 hgl2, kept2 hB1 K2 hgl2, kept2 hB1 K3 hgl2⟩ | with_reducible exact ⟨kept2 hB2 K0 hgl2, kept2 hB2 K1 hgl2, kept2 hB2 K2 hgl2, kept2 hB2 K3 hgl2⟩ | with_reducible exact ⟨(put4_cell hne).trans (kept2 hB2 K0 hgl2), (put4_cell hne).trans (kept2 hB2 K1 hgl2), (put4_cell hne).trans (kept2 hB2 K2 hgl2), (put4_cell hne).trans (kept2 hB2 K3 hgl2)⟩ | fail)
              (first
                | (go_at_call 79; (with_reducible refine (HOWN.out _ hbel.drew).mono ?_); rintro e v1 ⟨A3, c3, A4, c4, rfl, hoiF, holF, ha1⟩; have hB1 : Below W1.heap.size W1 v1 := below_d0 ha1; have hoi : OwnI v1 W1.heap.size v1.heap.size A3 c3 is := hoiF; have hol : OwnL v1 W1.heap.size v1.heap.size A4 c4 (ls.drop n') := holF)
                | (go_at_call 84; (with_reducible refine (HL.out v1 hB1).mono ?_); rintro e v2 ⟨A5, c5, rfl, ho5, ha2⟩; have hB2 : Below W1.heap.size W1 v2 := hB1.trans (ha2.mono hB1.size); have y0 := kept2 hB2 R0 hrl2; have z0 := keptF hB2 f20 hrl2; have y1 := kept2 hB2 R1 hrl2; have z1 := keptF hB2 f21 hrl2; have y2 := kept2 hB2 R2 hrl2; have z2 := keptF hB2 f22 hrl2; have y3 := kept2 hB2 R3 hrl2; have z3 := keptF hB2 f23 hrl2)
                | fail)
            have hz1 := hB1.size
            have hz2 := ha2.size
            have hz3 := HBW2.out.size
            have HAN := Lib.hid (show DlvPost (dlvA now is far ls) w (.returned (.tuple #[.agg #[.int .i64 now, .slice A3 n c3, .int .i64 far, .slice A4 (0) c4], .slice A5 n' c5, .bool true])) ((((v2.setCell ⟨w.heap.size + 1, 0, none⟩ (.int .i64 now)).setCell ⟨w.heap.size + 1, 1, none⟩ (.slice A3 n c3)).setCell ⟨w.heap.size + 1, 2, none⟩ (.int .i64 far)).setCell ⟨w.heap.size + 1, 3, none⟩ (.slice A4 (0) c4)) by
              rw [HS.out]
              exact ⟨A3, c3, A4, c4, A5, c5, by simp only [HN.out, HLT1.out, HLT2.out], (OwnI.put4 (hoi.since ha2 (Nat.le_refl _)) (by omega)).wider (by omega) (by simp [World.setCell]; omega), (OwnL.put4 (hol.since ha2 (Nat.le_refl _)) (by omega)).wider (by omega) (by simp [World.setCell]; omega), (OwnL.put4 ho5 (by omega)).wider (by omega) (by simp [World.setCell]), (fun x y hx hy => by have e1 := (own_range hol x hx).2; have e2 := (own_range ho5 y hy).1; omega), bel_put4 (HBW2.out.trans (hB2.mono HBW2.out.size)) (by omega)⟩)
            clear hoiF holF hoi hol ho5 ha1 ha2 hB1 hB2 HS0 hz1 hz2 hz3 HOWN HL
            go_wp2
            exact bodyPost_ret (v := .tuple #[.agg #[.int .i64 now, .slice A3 n c3, .int .i64 far, .slice A4 (0) c4], .slice A5 n' c5, .bool true]) (by simp [results, Try.results38, go_sem, y0, y1, y2, y3, z0, z1, z2, z3]) rfl HAN.out
          · have hck2 : ¬ (c' = n') := fun e => hck e.symm
            have HPT := Lib.hid (show LetsB w B (some (ad.add (n' * 4))) (ls.drop n') by rw [hdr]; exact .inl rfl)
            clear hdr
            have HS := Lib.hid (show dlvA now is far ls = ((now, is, far, ls.drop n', true), ls.take n') by unfold dlvA; rw [HG1.out, if_pos rfl, HK.out])
            go_wp2_with fail
            go_quiet (fail)
            go_wp2_with fail
            obtain ⟨W1, hW1⟩ : ∃ W1, W1 = wr.drewN nq := ⟨_, rfl⟩
            have hbw1 : Below w1.heap.size w1 W1 := by rw [hW1]; first | exact HBW.out | exact below_drewN HBW.out _
            rw [← hW1]
            clear hW1 y0 y1 y2 y3
            have hk2 := (hbw1.block w.heap.size hgl).trans HK1.out
            have hr2 := (hbw1.block (w.heap.size + 1) hrl).trans HR1.out
            have hb2 := HB1.out.trans (hbw1.mono HB1.out.size)
            have k20 := cell_of_row _ _ 0 _ 35 (0, 0) hk2
            have r20 := cell_of_row _ _ 0 _ 35 (0, 0) hr2
            have f20 := free_blk hr2 0
            have k21 := cell_of_row _ _ 1 _ 35 (0, 0) hk2
            have r21 := cell_of_row _ _ 1 _ 35 (0, 0) hr2
            have f21 := free_blk hr2 1
            have k22 := cell_of_row _ _ 2 _ 35 (0, 0) hk2
            have r22 := cell_of_row _ _ 2 _ 35 (0, 0) hr2
            have f22 := free_blk hr2 2
            have k23 := cell_of_row _ _ 3 _ 35 (0, 0) hk2
            have r23 := cell_of_row _ _ 3 _ 35 (0, 0) hr2
            have f23 := free_blk hr2 3
            have K0 : W1.cell? ⟨w.heap.size, 0, none⟩ = some (.int .i64 now) := k20
            have R0 : W1.cell? ⟨w.heap.size + 1, 0, none⟩ = some (.int .i64 0) := r20
            have K1 : W1.cell? ⟨w.heap.size, 1, none⟩ = some (.slice A n c) := k21
            have R1 : W1.cell? ⟨w.heap.size + 1, 1, none⟩ = some (.slice none 0 0) := r21
            have K2 : W1.cell? ⟨w.heap.size, 2, none⟩ = some (.int .i64 far) := k22
            have R2 : W1.cell? ⟨w.heap.size + 1, 2, none⟩ = some (.int .i64 0) := r22
            have K3 : W1.cell? ⟨w.heap.size, 3, none⟩ = some (.slice (some ad) n' c') := k23
            have R3 : W1.cell? ⟨w.heap.size + 1, 3, none⟩ = some (.slice none 0 0) := r23
            clear k20 k21 k22 k23 r20 r21 r22 r23
            have hgl2 := lt_blk hk2
            have hrl2 := lt_blk hr2
            have hne : w.heap.size ≠ w.heap.size + 1 := by omega
            have hbel := Below.refl W1.heap.size W1
            have HBW2 := Lib.hid hb2
            have hlt1 : (ls.take n').length = n' := by rw [List.length_take]; omega
            have hlt2 : (ls.drop n').length = 0 := by rw [List.length_drop]; omega
            have HLT1 := Lib.hid hlt1
            have HLT2 := Lib.hid hlt2
            have hown := fun (v : World) (hv : Below W1.heap.size W1 v) => l7Own_any now far A (some ad) (some (ad.add (n' * 4))) n c n' c' (0) (c' - n') is (ls.drop n') B v HN.out hlt2 (HIS.out.below ((hb2.trans (hv.mono hb2.size)).mono hB)) (HPT.out.below ((hb2.trans (hv.mono hb2.size)).mono hB)) (Nat.le_trans hB (hb2.trans (hv.mono hb2.size)).size) (by omega) (by omega)
            unfold NetV at hown
            simp only [HN.out, hlt2] at hown
            have HOWN := Lib.hid hown
            have HL := Lib.hid (fun v (hv : Below W1.heap.size W1 v) => l7OwnL_any (some ad) n' c' (ls.take n') B v hlt1 ((HLS.out.head n').below ((hb2.trans (hv.mono hb2.size)).mono hB)) (Nat.le_trans hB (hb2.trans (hv.mono hb2.size)).size) (by omega))
            have HS0 : W1.drew.cell? ⟨w.heap.size, 0, none⟩ = some (.int .i64 now) ∧ W1.drew.cell? ⟨w.heap.size, 1, none⟩ = some (.slice A n c) ∧ W1.drew.cell? ⟨w.heap.size, 2, none⟩ = some (.int .i64 far) ∧ W1.drew.cell? ⟨w.heap.size, 3, none⟩ = some (.slice (some ad) n' c') := ⟨K0, K1, K2, K3⟩
            have hkc : (n' : Int) ≤ (c' : Int) := by omega
            have hkc2 : n' ≤ c' := by omega
            have hkn2 : (n' : Int) ≤ (n' : Int) := by omega
            have htk : ((n' : Nat) : Int).toNat = n' := by omega
            have hlow : w.heap.size + 1 < W1.heap.size := hrl2
            clear hown hk2 hr2 hb2 hbw1 HBW HP HK HG1 hlt1 hlt2
            go_region_held3 (fun w' => w'.cell? ⟨w.heap.size, 0, none⟩ = some (.int .i64 now) ∧ w'.cell? ⟨w.heap.size, 1, none⟩ = some (.slice A n c) ∧ w'.cell? ⟨w.heap.size, 2, none⟩ = some (.int .i64 far) ∧ w'.cell? ⟨w.heap.size, 3, none⟩ = some (.slice (some ad) n' c'))
              (first | with_reducible exact HS0 | with_reducible exact ⟨kept2 hB1 K0 hgl2, kept2 hB1 K1 hgl2, kept2 hB1 K2 hgl2, kept2 hB1 K3 hgl2⟩ | with_reducible exact ⟨kept2 hB2 K0 hgl2, kept2 hB2 K1 hgl2, kept2 hB2 K2 hgl2, kept2 hB2 K3 hgl2⟩ | with_reducible exact ⟨(put4_cell hne).trans (kept2 hB2 K0 hgl2), (put4_cell hne).trans (kept2 hB2 K1 hgl2), (put4_cell hne).trans (kept2 hB2 K2 hgl2), (put4_cell hne).trans (kept2 hB2 K3 hgl2)⟩ | fail)
              (first
                | (go_at_call 79; (with_reducible refine (HOWN.out _ hbel.drew).mono ?_); rintro e v1 ⟨A3, c3, A4, c4, rfl, hoiF, holF, ha1⟩; have hB1 : Below W1.heap.size W1 v1 := below_d0 ha1; have hoi : OwnI v1 W1.heap.size v1.heap.size A3 c3 is := hoiF; have hol : OwnL v1 W1.heap.size v1.heap.size A4 c4 (ls.drop n') := holF)
                | (go_at_call 84; (with_reducible refine (HL.out v1 hB1).mono ?_); rintro e v2 ⟨A5, c5, rfl, ho5, ha2⟩; have hB2 : Below W1.heap.size W1 v2 := hB1.trans (ha2.mono hB1.size); have y0 := kept2 hB2 R0 hrl2; have z0 := keptF hB2 f20 hrl2; have y1 := kept2 hB2 R1 hrl2; have z1 := keptF hB2 f21 hrl2; have y2 := kept2 hB2 R2 hrl2; have z2 := keptF hB2 f22 hrl2; have y3 := kept2 hB2 R3 hrl2; have z3 := keptF hB2 f23 hrl2)
                | fail)
            have hz1 := hB1.size
            have hz2 := ha2.size
            have hz3 := HBW2.out.size
            have HAN := Lib.hid (show DlvPost (dlvA now is far ls) w (.returned (.tuple #[.agg #[.int .i64 now, .slice A3 n c3, .int .i64 far, .slice A4 (0) c4], .slice A5 n' c5, .bool true])) ((((v2.setCell ⟨w.heap.size + 1, 0, none⟩ (.int .i64 now)).setCell ⟨w.heap.size + 1, 1, none⟩ (.slice A3 n c3)).setCell ⟨w.heap.size + 1, 2, none⟩ (.int .i64 far)).setCell ⟨w.heap.size + 1, 3, none⟩ (.slice A4 (0) c4)) by
              rw [HS.out]
              exact ⟨A3, c3, A4, c4, A5, c5, by simp only [HN.out, HLT1.out, HLT2.out], (OwnI.put4 (hoi.since ha2 (Nat.le_refl _)) (by omega)).wider (by omega) (by simp [World.setCell]; omega), (OwnL.put4 (hol.since ha2 (Nat.le_refl _)) (by omega)).wider (by omega) (by simp [World.setCell]; omega), (OwnL.put4 ho5 (by omega)).wider (by omega) (by simp [World.setCell]), (fun x y hx hy => by have e1 := (own_range hol x hx).2; have e2 := (own_range ho5 y hy).1; omega), bel_put4 (HBW2.out.trans (hB2.mono HBW2.out.size)) (by omega)⟩)
            clear hoiF holF hoi hol ho5 ha1 ha2 hB1 hB2 HS0 hz1 hz2 hz3 HOWN HL
            go_wp2
            exact bodyPost_ret (v := .tuple #[.agg #[.int .i64 now, .slice A3 n c3, .int .i64 far, .slice A4 (0) c4], .slice A5 n' c5, .bool true]) (by simp [results, Try.results38, go_sem, y0, y1, y2, y3, z0, z1, z2, z3]) rfl HAN.out
end Go.Proofs.Ytojplmjoipjabaa.Nt
