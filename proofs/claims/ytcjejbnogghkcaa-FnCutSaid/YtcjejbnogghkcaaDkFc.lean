/-
  The walk of the law FnFall.
-/
import Derived.Test.YtcjejbnogghkcaaDkFb
import Derived.Test.YtcjejbnogghkcaaDkFr
import Derived.Test.YtcjejbnogghkcaaDk5s
namespace Go.Proofs.Ytcjejbnogghkcaa.Dk
open Go.RowKit C1
set_option linter.unusedVariables false
set_option linter.unusedSimpArgs false

theorem alloc3 (w : World) (a b c : Obj) : (((w.alloc a).alloc b).alloc c).heap[w.heap.size]? = some a ∧ Below w.heap.size w (((w.alloc a).alloc b).alloc c) := by
  refine ⟨?_, below3 w a b c⟩
  rw [Below.heap_alloc _ _ _ (by simp; omega), Below.heap_alloc _ _ _ (by simp)]
  exact heap_alloc_new w a
theorem strs_take {w : World} {B : Nat} {A : Option Addr} {xs : List ByteArray} (h : StrsB w B A xs) (n : Nat) : StrsB w B A (xs.take n) := by
  rcases h with h | ⟨b, off, hA, hlt, hc⟩
  · exact .inl (by rw [List.map_take, h]; simp)
  · refine .inr ⟨b, off, hA, hlt, fun k hk i hi => ?_⟩
    simp only [List.map_take, List.length_take] at hk
    have := hc k (by omega) i hi
    rw [this]
    simp [List.map_take]
theorem s9_flat' (L : List ByteArray) : C1.S9 L = (L.map strCs).flatten := by
  induction L with
  | nil => rfl
  | cons s L ih => simp only [C1.S9, List.map_cons, List.flatten_cons, strCs] at ih ⊢; rw [ih]; rfl
theorem strsB_own {w : World} {lo c : Nat} {A : Option Addr} {L : List ByteArray} (h : w.ownsRow lo 9 1 (.slice A L.length c) L.length (C1.S9 L)) : StrsB w w.heap.size A L := by
  rw [s9_flat'] at h
  obtain ⟨A', c', e, _, ho⟩ := Own.ofRow (hi := w.heap.size) h (strCs_len L) (by decide) (fun k hk => (h.lt k hk).2)
  injection e with e1 e2 e3
  subst e1 e3
  exact OwnS.strs ho
theorem own_cap {w : World} {b e sz n c : Nat} {A : Option Addr} {xs : List Value} (h : w.ownsRow b e sz (.slice A n c) n xs) : n ≤ c := by
  rcases h.2 with ⟨h1, h2⟩ | ⟨g, cap, cur, h1, _, _, hle, _⟩
  · injection h1 with _ h1 h3; omega
  · injection h1 with _ h1 h3; omega
theorem infoInt : (Try.prog.info? 3).map (fun i => (i.zero, i.size, i.bytes)) = some (some (.int .i64 0), 1, 8) := by kernel_rfl
/-- What the first loop of FnFall keeps: eight texts, the disk that holds their frames, the frames' ends. -/
def LRel (W : World) (gd : Nat) (i : Nat) (a kpv ev : Value) (wr : World) : Prop :=
  ∃ (ts : List ByteArray) (kp : Nat), ts.length = i ∧ (∀ s ∈ ts, s.size ≤ 8) ∧ kp ≤ i ∧ kpv = .int .i64 (kp : Int) ∧ wr.heap[gd]? = some (.cells #[.string (kB ts kp), .string (lB ts kp)] 30 (0, 0)) ∧
    wr.ownsRow (gd + 1) 9 1 a i (S9 ts) ∧ wr.ownsRow (gd + 1) 3 1 ev i (endsV ts) ∧ Below gd W wr
theorem writeA_ts {ts : List ByteArray} {kp : Nat} {s : ByteArray} (hts : ∀ s ∈ ts, s.size ≤ 8) (hk : kp ≤ ts.length) (hl : ts.length ≤ 8) (hs : s.size ≤ 8) : writeA (kB ts kp) (lB ts kp) s = (kB (ts ++ [s]) kp, lB (ts ++ [s]) kp, true) := by
  have h1 := kl_size ts kp hts
  have h2 := kl_size (ts ++ [s]) kp (fun x hx => by rcases List.mem_append.1 hx with h | h; exact hts x h; simp at h; subst h; exact hs)
  rw [List.length_append, List.length_singleton] at h2
  rw [kB_put s hk, lB_put s hk] at h2 ⊢
  exact writeA_yes (goodB_yes (by omega)) (by omega) (goodB_yes (by omega))
theorem syncA_ts {ts : List ByteArray} {kp : Nat} (hts : ∀ s ∈ ts, s.size ≤ 8) (hl : ts.length ≤ 9) : syncA (kB ts kp) (lB ts kp) = (kB ts ts.length, lB ts ts.length, true) := by
  have h1 := kl_size ts kp hts
  unfold syncA
  rw [if_pos (goodB_yes (by omega)), kl_all, lB_all]

set_option maxRecDepth 100000 in
set_option maxHeartbeats 8000000 in
theorem fall_walk (w : World) (A : Option Addr) (n c : Nat) (l : List UInt8) (hn : l.length = n) (h : BytesAt w A l) (hm : n ≤ maxLen) :
    Calls Try.prog 4 #[.slice A n c] w fun e w' => e = .returned (.bool true) ∧ Below w.heap.size w w' := by
  by_cases hb : n ≤ 65536
  · have HV := Lib.hid (fun W => vBig_no A n c W hb)
    have HTX := Lib.hid (fun i W (hW : BytesAt W A l) hi => vText_any A n c l i W hn hW (by omega) hi)
    have HAT := Lib.hid (fun i W (hW : BytesAt W A l) hi => vAt_any A n c l i W hn hW (by omega) hi)
    have HBY := Lib.hid h
    obtain ⟨i9, hi9, hz90, hz91, hz92⟩ := info_parts info9
    obtain ⟨i3, hi3, hz30, hz31, hz32⟩ := info_parts infoInt
    clear hn h hm
    go_enter Try.func4, Try.ntmps4
    go_wp2_with fail
    refine (HV.out _).mono ?_
    rintro e w1 ⟨rfl, rfl⟩
    go_wp2_with fail
    have hst0 := heap_alloc_new w (.cells #[.string ⟨#[]⟩, .string ⟨#[]⟩] 30)
    have hsa := alloc3 w (.cells #[.string ⟨#[]⟩, .string ⟨#[]⟩] 30) (.cells #[] 9) (.cells #[] 3)
    have h9 := World.ownsRow_lit (base := w.heap.size + 1) (e := 9) (size := 1) (w.alloc (.cells #[.string ⟨#[]⟩, .string ⟨#[]⟩] 30)) #[] 0 (by simp) (by unfold maxLen; omega) rfl
    have h3 := World.ownsRow_lit (base := w.heap.size + 1) (e := 3) (size := 1) ((w.alloc (.cells #[.string ⟨#[]⟩, .string ⟨#[]⟩] 30)).alloc (.cells #[] 9)) #[] 0 (by simp) (by unfold maxLen; omega) rfl
    have HST := Lib.hid (show LRel w w.heap.size 0 (.slice (some ⟨w.heap.size + 1, 0, none⟩) 0 0) (.int .i64 0) (.slice (some ⟨w.heap.size + 1 + 1, 0, none⟩) 0 0) (((w.alloc (.cells #[.string ⟨#[]⟩, .string ⟨#[]⟩] 30)).alloc (.cells #[] 9)).alloc (.cells #[] 3)) from
      ⟨[], 0, rfl, by simp, Nat.le_refl _, rfl, hsa.1, by simpa [S9] using h9.alloc (.cells #[] 3), by simpa [endsV] using h3, hsa.2⟩)
    obtain ⟨gd, hgd⟩ : ∃ gd, gd = w.heap.size := ⟨_, rfl⟩
    have HGD := Lib.hid hgd
    rw [← hgd] at HST ⊢
    clear hst0 hsa h9 h3 hgd
    go_loopw [4, 5, 6, 7] (fun a k ev i wr => ∃ j : Nat, j ≤ 8 ∧ i = .int .i64 (j : Int) ∧ LRel w gd j a k ev wr) (fun _ _ _ i _ => 8 - (intOf i).toNat)
    case atStart => exact ⟨0, by omega, rfl, HST.out⟩
    case round =>
      clear HST
      obtain ⟨j, hj, rfl, ts, kp, hlen, hts, hkp, rfl, hd, ho9, ho3, hbw⟩ := hrel
      by_cases hlt : j < 8
      · obtain ⟨p, hp⟩ : ∃ p, p = 10 * j := ⟨_, rfl⟩
        have hix : (10 : Int) * (j : Int) = (p : Int) := by omega
        have hbw' : Below w.heap.size w wr := by rw [← HGD.out]; exact hbw
        have HX := Lib.hid (HTX.out p wr (HBY.out.below hbw') (by omega))
        have HD1 := Lib.hid hd
        have HO9 := Lib.hid ho9
        have HO3 := Lib.hid ho3
        have HBW := Lib.hid hbw
        have HTS := Lib.hid hts
        have HLEN := Lib.hid hlen
        have hgl := blk_lt hd
        clear hp hd ho9 ho3 hbw hbw' hts hlen
        go_wp2_with fail
        refine HX.out.mono ?_
        rintro e w1 ⟨s, rfl, hs8, hb1⟩
        clear hix
        have hA := writeA_ts HTS.out (show kp ≤ ts.length by rw [HLEN.out]; exact hkp) (by rw [HLEN.out]; omega) hs8
        have hsz := kl_size ts kp HTS.out
        rw [HLEN.out] at hsz
        have HWI := Lib.hid (fun W => implWrite_any (kB ts kp) (lB ts kp) s W (by omega) (by omega) (by unfold maxLen; omega))
        have HWS := Lib.hid (fun W => specWrite_any (kB ts kp) (lB ts kp) s W (by omega) (by omega) (by omega))
        rw [hA] at HWI HWS
        simp only [DAns] at HWI HWS
        have HSY := Lib.hid (fun W => implSync_any (kB (ts ++ [s]) kp) (lB (ts ++ [s]) kp) W)
        have hts' : ∀ x ∈ ts ++ [s], x.size ≤ 8 := fun x hx => by rcases List.mem_append.1 hx with h | h; exact HTS.out x h; simp at h; subst h; exact hs8
        have hsz' := kl_size (ts ++ [s]) kp hts'
        have hlen' : (ts ++ [s]).length = j + 1 := by rw [List.length_append, HLEN.out]; rfl
        rw [syncA_ts hts' (by omega), hlen'] at HSY
        rw [hlen'] at hsz'
        simp only [DAns] at HSY
        have HSY2 := Lib.hid (fun W => HSY.out W (by omega) (by omega))
        have HEQ := Lib.hid (fun W => eq_disk W (kB (ts ++ [s]) kp) (lB (ts ++ [s]) kp))
        have hadd := fun (W : World) => run_string_add_sum (P := Try.prog) (w := W) (kB (ts ++ [s]) kp) (lB (ts ++ [s]) kp) (by omega)
        have hka := kl_all (ts ++ [s]) kp
        rw [hlen'] at hka
        simp only [hka] at hadd
        have hev := endsV_put ts s
        rw [hlen'] at hev
        have HTS' := Lib.hid hts'
        have HLEN' := Lib.hid hlen'
        have hksz := kl_size (ts ++ [s]) (j + 1) hts'
        rw [hlen'] at hksz
        obtain ⟨ts', hts2⟩ : ∃ ts', ts' = ts ++ [s] := ⟨_, rfl⟩
        rw [← hts2] at HWI HWS HSY2 HEQ hev hksz HTS' HLEN'
        simp only [← hts2] at hadd
        have hdj1 := hb1.block gd hgl
        have HTS2 := Lib.hid hts2
        have HEV := Lib.hid hev
        have hk2 : (kB ts' (j + 1)).size ≤ 200 := by omega
        obtain ⟨k', hk'⟩ : ∃ k', k' = kB ts' kp := ⟨_, rfl⟩
        obtain ⟨l', hl'⟩ : ∃ l', l' = lB ts' kp := ⟨_, rfl⟩
        obtain ⟨kk, hkk⟩ : ∃ kk, kk = kB ts' (j + 1) := ⟨_, rfl⟩
        rw [← hk', ← hl'] at HWI HWS HSY2 HEQ
        simp only [← hk', ← hl', ← hkk] at hadd
        rw [← hkk] at HSY2 HEV hk2
        have heq := HEQ.out
        have HK' := Lib.hid hk'
        have HL' := Lib.hid hl'
        have HKK := Lib.hid hkk
        have hd1 := hdj1.trans HD1.out
        have c0 := cell_of_row _ _ 0 _ _ (0, 0) hd1
        have c1 := cell_of_row _ _ 1 _ _ (0, 0) hd1
        simp only [List.getElem?_toArray, List.getElem?_cons_zero, List.getElem?_cons_succ] at c0 c1
        have hgl1 : gd < w1.heap.size := blk_lt hd1
        clear hA hsz hts' hsz' hlen' hka hev hksz hts2 hk' hl' hkk hdj1 HSY HX
        go_wp2_with fail
        refine (HWI.out _).mono ?_
        rintro e w2 ⟨rfl, hb2⟩
        have hd2 := (hb2.block gd hgl1).trans hd1
        have hb12 := hb1.trans (hb2.mono hb1.size)
        clear c0 c1
        have c0 := cell_of_row _ _ 0 _ _ (0, 0) hd2
        have c1 := cell_of_row _ _ 1 _ _ (0, 0) hd2
        simp only [List.getElem?_toArray, List.getElem?_cons_zero, List.getElem?_cons_succ] at c0 c1
        have hgl2 : gd < w2.heap.size := blk_lt hd2
        clear hb1 hb2 hd1
        go_wp2_with fail
        refine (HWS.out _).mono ?_
        rintro e w3 ⟨rfl, hb3⟩
        have hx := (hb3.block w2.heap.size (by simp)).trans (heap_alloc_new w2 _)
        have hd3 := (hb3.block gd (by simp; omega)).trans ((Below.heap_alloc _ _ _ hgl2).trans hd2)
        have hb13 : Below wr.heap.size wr w3 := (hb12.alloc hb12.size _).trans (hb3.mono (hb12.alloc hb12.size _).size)
        clear c0 c1
        have c0 := cell_of_row _ _ 0 _ _ (0, 0) hd3
        have c1 := cell_of_row _ _ 1 _ _ (0, 0) hd3
        have x0 := cell_of_row _ _ 0 _ _ (0, 0) hx
        have x1 := cell_of_row _ _ 1 _ _ (0, 0) hx
        simp only [List.getElem?_toArray, List.getElem?_cons_zero, List.getElem?_cons_succ] at c0 c1 x0 x1
        have hgl3 : gd < w3.heap.size := blk_lt hd3
        have hlx : w2.heap.size < w3.heap.size := blk_lt hx
        have fz := free_row hd3
        have HD3 := Lib.hid hd3
        have HB13 := Lib.hid hb13
        clear hb3 hb12 hd2 hd3 hx hb13
        go_upto_region 15 with fail
        have hW3 : Below gd w w3 := HBW.out.trans (HB13.out.mono (Nat.le_of_lt hgl))
        obtain ⟨W4, hW4⟩ : ∃ W4, W4 = (((w3.setCell ⟨gd, 0, none⟩ (.string k')).setCell ⟨gd, 1, none⟩ (.string l')).alloc (.cells #[.string k', .string l'] 30)) := ⟨_, rfl⟩
        have hd4 : W4.heap[gd]? = some (.cells #[.string k', .string l'] 30 (0, 0)) := by rw [hW4]; exact (Below.heap_alloc _ _ _ (by simpa [World.setCell] using hgl3)).trans (set_two HD3.out)
        have h94 : W4.ownsRow (gd + 1) 9 1 u4 j (S9 ts) := by rw [hW4]; exact (row_set (row_set (row_below HO9.out HB13.out) (p := ⟨gd, 0, none⟩) (Nat.lt_succ_self _) _) (p := ⟨gd, 1, none⟩) (Nat.lt_succ_self _) _).alloc _
        have h34 : W4.ownsRow (gd + 1) 3 1 u6 j (endsV ts) := by rw [hW4]; exact (row_set (row_set (row_below HO3.out HB13.out) (p := ⟨gd, 0, none⟩) (Nat.lt_succ_self _) _) (p := ⟨gd, 1, none⟩) (Nat.lt_succ_self _) _).alloc _
        have hB4 : Below gd w W4 := by rw [hW4]; exact ((hW3.setCell (p := ⟨gd, 0, none⟩) (Nat.le_refl _) _).setCell (p := ⟨gd, 1, none⟩) (Nat.le_refl _) _).alloc (by have := hgl3; simp [World.setCell]; omega) _
        have hgl4 := blk_lt hd4
        rw [← hW4]
        have HD4 := Lib.hid hd4
        have H94 := Lib.hid h94
        have H34 := Lib.hid h34
        have HB4 := Lib.hid hB4
        have hnx : (gd + 1 : Nat) ≤ W4.heap.size := hgl4
        clear hW4 hW3 hd4 h94 h34 hB4 c0 c1 x0 x1 fz heq hlx
        go_wp2_with (at_builtin; (first | (refine wpList_append_own _ rfl (.tmp 56) (.tmp 58) 31 rfl (gd + 1) 9 i9 (.string ⟨#[]⟩) 1 16 Try.underlying31 hi9 hz90 hz91 hz92 rfl (by decide) _ _ _ rfl (H94.out.alloc _) ⟨W4.heap.size, 0, none⟩ 1 1 [.string s] rfl rfl (one_at _ _ _) (one_str _) (by unfold maxLen; omega) (by omega) (by simp; omega) ?_; intro v5 w5 hown5 hg5 _; have hd5 : w5.heap[gd]? = _ := (hg5.block gd (by simp; omega) (fun e => by have := (H94.out.lt gd e.symm).1; omega)).trans ((Below.heap_alloc _ _ _ hgl4).trans HD4.out); have h35 := ((H34.out.alloc (.cells #[.string s] 9)).kept hg5 (own_ne H34.out H94.out (by decide))); have hB5 : Below gd w w5 := (HB4.out.alloc (Nat.le_of_lt hgl4) _).grown hg5 (by simp; omega) (fun k hk => by have := (H94.out.lt k hk).1; omega); have c0 := cell_of_row _ _ 0 _ _ (0, 0) hd5; have c1 := cell_of_row _ _ 1 _ _ (0, 0) hd5; have hgl5 := blk_lt hd5; have H95 := Lib.hid (own_snocS hown5); have H35 := Lib.hid h35; have HB5 := Lib.hid hB5; have HD5 := Lib.hid hd5; clear hown5 hg5 h35 hB5 hd5) | (refine wpList_append_own _ rfl (.tmp 60) (.tmp 67) 32 rfl (gd + 1) 3 i3 (.int .i64 0) 1 8 Try.underlying32 hi3 hz30 hz31 hz32 rfl (by decide) _ _ _ rfl (H35.out.alloc _) ⟨w5.heap.size, 0, none⟩ 1 1 [.int .i64 (kk.size : Int)] rfl rfl (one_at _ _ _) (one_int _ _) (by unfold maxLen; omega) (by omega) (by simp; omega) ?_; intro v6 w6 hown6 hg6 _; have hd6 : w6.heap[gd]? = _ := (hg6.block gd (by simp; omega) (fun e => by have := (H35.out.lt gd e.symm).1; omega)).trans ((Below.heap_alloc _ _ _ hgl5).trans HD5.out); have h96 := ((H95.out.alloc (.cells #[.int .i64 (kk.size : Int)] 3)).kept hg6 (own_ne H95.out H35.out (by decide))); have hB6 : Below gd w w6 := (HB5.out.alloc (Nat.le_of_lt hgl5) _).grown hg6 (by simp; omega) (fun k hk => by have := (H35.out.lt k hk).1; omega); have h36 := hown6; rw [← HEV.out] at h36; have H96 := Lib.hid h96; have H36 := Lib.hid h36; have HB6 := Lib.hid hB6; have HD6 := Lib.hid hd6; clear hown6 hg6 h96 h36 hB6 hd6 c0 c1)))
        have c0 := cell_of_row _ _ 0 _ _ (0, 0) HD6.out
        have c1 := cell_of_row _ _ 1 _ _ (0, 0) HD6.out
        simp only [List.getElem?_toArray, List.getElem?_cons_zero, List.getElem?_cons_succ] at c0 c1
        have hgl6 := blk_lt HD6.out
        have fz := free_row HD6.out
        refine (HAT.out j w6 (HBY.out.below (by rw [← HGD.out]; exact HB6.out)) (by omega)).mono ?_
        rintro e w7 ⟨x, hx, rfl, rfl⟩
        by_cases hx4 : x % 4 = 0
        · have hx5 : (x : Int) % 4 = 0 := by omega
          clear hx4
          go_wp2_with fail
          refine (HSY2.out _).mono ?_
          rintro e w8 ⟨rfl, hb8⟩
          have hd8 := (hb8.block gd hgl6).trans HD6.out
          have fz8 := free_row hd8
          clear c0 c1 fz
          have c0 := cell_of_row _ _ 0 _ _ (0, 0) hd8
          have c1 := cell_of_row _ _ 1 _ _ (0, 0) hd8
          simp only [List.getElem?_toArray, List.getElem?_cons_zero, List.getElem?_cons_succ] at c0 c1
          have HD8 := Lib.hid hd8
          have H98 := Lib.hid (row_below H96.out hb8)
          have H38 := Lib.hid (row_below H36.out hb8)
          have HB8 := Lib.hid (HB6.out.trans (hb8.mono (Nat.le_of_lt hgl6)))
          clear hd8 hb8
          go_wp2
          go_roundw
          case rel =>
            refine ⟨j + 1, by omega, by go_num, ts', j + 1, HLEN'.out, HTS'.out, Nat.le_refl _, by go_num, ?_, ?_, ?_, (HB8.out.setCell (p := ⟨gd, 0, none⟩) (Nat.le_refl _) _).setCell (p := ⟨gd, 1, none⟩) (Nat.le_refl _) _⟩
            · rw [← HKK.out]; exact set_two HD8.out
            · rw [HTS2.out]; exact row_set (row_set H98.out (p := ⟨gd, 0, none⟩) (Nat.lt_succ_self _) _) (p := ⟨gd, 1, none⟩) (Nat.lt_succ_self _) _
            · exact row_set (row_set H38.out (p := ⟨gd, 0, none⟩) (Nat.lt_succ_self _) _) (p := ⟨gd, 1, none⟩) (Nat.lt_succ_self _) _
          case measure => simp [intOf]; omega
        · have hx5 : ((x : Int) % 4 == 0) = false := by simp; omega
          clear hx4
          go_wp2
          go_roundw
          case rel => exact ⟨j + 1, by omega, by go_num, ts', kp, HLEN'.out, HTS'.out, by omega, rfl, by rw [← HK'.out, ← HL'.out]; exact HD6.out, by rw [HTS2.out]; exact H96.out, H36.out, HB6.out⟩
          case measure => simp [intOf]; omega
      · obtain rfl : j = 8 := by omega
        have hgl := blk_lt hd
        have hbw' : Below w.heap.size w wr := by rw [← HGD.out]; exact hbw
        have hsz := kl_size ts kp hts
        have hbt := HBY.out.below hbw'
        have HA1 := Lib.hid (fun W (hW : BytesAt W A l) => (show Calls Try.prog 24 #[.slice A n c, .int .i64 1] W fun e w' => ∃ v : Nat, v ≤ 255 ∧ e = .returned (.int .i64 (v : Int)) ∧ W = w' from HAT.out 1 W hW (by omega)))
        have HA2 := Lib.hid (fun W (hW : BytesAt W A l) => (show Calls Try.prog 24 #[.slice A n c, .int .i64 2] W fun e w' => ∃ v : Nat, v ≤ 255 ∧ e = .returned (.int .i64 (v : Int)) ∧ W = w' from HAT.out 2 W hW (by omega)))
        have HTS := Lib.hid hts
        have HLEN := Lib.hid hlen
        rw [hlen] at hsz
        obtain ⟨K, hK⟩ : ∃ K, K = kB ts kp := ⟨_, rfl⟩
        obtain ⟨L, hL⟩ : ∃ L, L = lB ts kp := ⟨_, rfl⟩
        rw [← hK, ← hL] at hd hsz
        have HK := Lib.hid hK
        have HL := Lib.hid hL
        have c1 := cell_of_row _ _ 1 _ _ (0, 0) hd
        simp only [List.getElem?_toArray, List.getElem?_cons_zero, List.getElem?_cons_succ] at c1
        have HD1 := Lib.hid hd
        have HO9 := Lib.hid ho9
        have HO3 := Lib.hid ho3
        have HBW := Lib.hid hbw
        have HBT := Lib.hid hbt
        clear hd ho9 ho3 hbw hbw' hbt hts hlen hK hL
        have hLb : (L.size : Int) ≤ 104 := by omega
        have hLw : IntKind.i64.wrap ((L.size : Int) + 1) = (L.size : Int) + 1 := by rw [IntKind.wrap_i64]; omega
        have hLz : ¬ ((L.size : Int) + 1 = 0) := by omega
        have hLp : (0 : Int) < (L.size : Int) + 1 := by omega
        go_upto_region 20 with fail
        go_region_held3 (fun w' => w'.cell? ⟨gd, 1, none⟩ = some (.string L))
          (first | go_keep | exact c1)
          (first
            | ((go_at_call 24; (with_reducible refine (HA1.out _ ?_).mono ?_); (exact HBT.out); rintro e w' ⟨x, hx, rfl, rfl⟩))
            | ((go_at_call 24; (with_reducible refine (HA2.out _ ?_).mono ?_); (exact HBT.out); rintro e w' ⟨y, hy, rfl, rfl⟩)))
        have hmd : (x : Int).tmod ((L.size : Int) + 1) = ((x % (L.size + 1) : Nat) : Int) := by
          rw [Int.tmod_eq_emod_of_nonneg (by omega), show ((L.size : Int) + 1) = ((L.size + 1 : Nat) : Int) by omega]; first | exact (Int.natCast_emod _ _).symm | exact (Int.ofNat_emod _ _).symm | simp
        have hml : x % (L.size + 1) ≤ L.size := by have := Nat.mod_lt x (show 0 < L.size + 1 by omega); omega
        obtain ⟨m, hm⟩ : ∃ m, m = x % (L.size + 1) := ⟨_, rfl⟩
        rw [← hm] at hmd hml
        obtain ⟨tb, htb⟩ : ∃ tb, tb = ((y : Int).tmod 3 == 0) := ⟨_, rfl⟩
        rw [hmd, ← htb]
        clear hm hmd htb hLw hLz hLp
        obtain ⟨A3, c3, rfl⟩ := own_form HO3.out
        obtain ⟨A4, c4, rfl⟩ := own_form HO9.out
        have hAF := after_fall ts kp m tb HTS.out (by rw [HLEN.out]; exact hkp) (by rw [← HL.out]; exact hml)
        rw [← HK.out, ← HL.out, HLEN.out] at hAF
        have hfl := fallL_len L.data.toList m tb (by rw [data_len]; exact hml)
        obtain ⟨B, hB⟩ : ∃ B, B = K ++ ⟨(fallL L.data.toList m tb).toArray⟩ := ⟨_, rfl⟩
        have hBs : B.size = K.size + m := by rw [hB, ByteArray.size_append]; show K.size + (fallL L.data.toList m tb).toArray.size = K.size + m; simp [hfl]
        have HF := Lib.hid (fun W => implFall_any K L (m : Int) tb W (by omega) (by omega))
        rw [fallA_yes (goodB_yes (by omega)) hml, ← hB] at HF
        rw [← hB] at hAF
        have HO := Lib.hid (fun W => implOn_any B ⟨#[]⟩ W (by omega) (by decide))
        rw [onA_yes (goodB_yes (by rw [show (⟨#[]⟩ : ByteArray).size = 0 from rfl]; omega)), add_nil] at HO
        simp only [DAns] at HF
        rcases hfr : frs B B.size 0 with ⟨R, z⟩
        rw [hfr] at HO hAF
        unfold OEnd at HO
        simp only at HO hAF
        obtain ⟨E, hE⟩ : ∃ E, E = K.size + m := ⟨_, rfl⟩
        rw [← hE] at hAF
        obtain ⟨t1, ht1⟩ : ∃ t1, t1 = (tb && decide (0 < m)) := ⟨_, rfl⟩
        rw [← ht1] at hAF
        obtain ⟨hR, hku⟩ := hAF
        have HR := Lib.hid hR
        have HKU := Lib.hid hku
        have HT1 := Lib.hid ht1
        have hEi : (K.size : Int) + (m : Int) = (E : Int) := by omega
        have hd0 := HD1.out
        have c0 := cell_of_row _ _ 0 _ _ (0, 0) hd0
        simp only [List.getElem?_toArray, List.getElem?_cons_zero, List.getElem?_cons_succ] at c0
        have hm0 : (0 : Int) ≤ (m : Int) := by omega
        have hEb : (E : Int) ≤ 104 := by omega
        have hEb0 : (0 : Int) ≤ (E : Int) := by omega
        clear hfl hB hBs hfr hE ht1 hR hku hd0 hsz hml
        go_wp2_with fail
        refine (HF.out _).mono ?_
        rintro e w1 ⟨rfl, hb1⟩
        have hb1' : Below wr.heap.size wr w1 := ⟨hb1.os, hb1.tape, hb1.output, hb1.size, hb1.block⟩
        have HB1 := Lib.hid hb1'
        clear hb1 hb1' c0 c1
        go_wp2_with fail
        refine (HO.out _).mono ?_
        rintro e w2 ⟨A5, c5, rfl, hor, hb2⟩
        have hb2' : Below w1.heap.size w1 w2 := (below1 w1 _).trans (hb2.mono (below1 w1 _).size)
        have hbA := HB1.out.trans (hb2'.mono HB1.out.size)
        have hd2 := (hbA.block gd hgl).trans HD1.out
        have he2 := (hb2.block w1.heap.size (by simp)).trans (heap_alloc_new w1 _)
        have HR3 := Lib.hid (row_below HO3.out hbA)
        have HR9 := Lib.hid (row_below HO9.out hbA)
        have HR5 := Lib.hid hor
        have HBF := Lib.hid (HBW.out.trans (hbA.mono (Nat.le_of_lt hgl)))
        have c0 := cell_of_row _ _ 0 _ _ (0, 0) hd2
        have x1 := cell_of_row _ _ 1 _ _ (0, 0) he2
        simp only [List.getElem?_toArray, List.getElem?_cons_zero, List.getElem?_cons_succ] at c0 x1
        have HE2 := Lib.hid he2
        have hws2 := hbA.size
        clear hb2 hb2' hbA hd2 he2 hor
        go_wp2_with fail
        go_loop [20, 21] (fun s i => ∃ j : Nat, j ≤ 8 ∧ i = .int .i64 (j : Int) ∧ s = .int .i64 ((wh ts E t1 j : Nat) : Int)) (fun _ i => 8 - (intOf i).toNat)
        case atStart => exact ⟨0, by omega, rfl, rfl⟩
        case round =>
          obtain ⟨j, hj, rfl, rfl⟩ := hrel
          by_cases hlt : j < 8
          · have hlt' : (j : Int) < 8 := by omega
            obtain ⟨ga, cap, hA3, _, _⟩ := HR3.out.form (by omega)
            injection hA3 with hA3 _ hc3
            subst hA3 hc3
            have hce := HR3.out.cellAt j (by omega)
            rw [endsV_at ts j (by rw [HLEN.out]; exact hlt)] at hce
            obtain ⟨f, hf⟩ : ∃ f, f = fend ts (j + 1) := ⟨_, rfl⟩
            rw [← hf] at hce
            have hj0 : (0 : Int) ≤ (j : Int) := by omega
            obtain ⟨u, hu⟩ : ∃ u, u = wh ts E t1 j := ⟨_, rfl⟩
            rw [← hu]
            have hstep : wh ts E t1 (j + 1) = if wholeB ts E t1 j = true then j + 1 else u := by rw [hu]; rfl
            have HST := Lib.hid hstep
            have HWB := Lib.hid (show wholeB ts E t1 j = (decide (f < E) || (decide (f = E) && (!t1 || decide (E = 0)))) by rw [hf]; rfl)
            clear hstep hf hu hlt
            by_cases h1 : f < E
            · have HW := Lib.hid (show wh ts E t1 (j + 1) = j + 1 by rw [HST.out, HWB.out]; simp [h1])
              have h1' : (f : Int) < (E : Int) := by omega
              have h1'' : decide (f < E) = true := by simpa using h1
              clear h1
              go_wp2
              go_round
              case rel => exact ⟨j + 1, by omega, by go_num, by rw [HW.out]; go_num⟩
              case measure => simp [intOf]; omega
            · have h1' : decide ((f : Int) < (E : Int)) = false := by simp; omega
              have h1'' : decide (f < E) = false := by simpa using h1
              by_cases h2 : f = E
              · subst h2
                cases tb with
                | false =>
                  have HW := Lib.hid (show wh ts f t1 (j + 1) = j + 1 by rw [HST.out, HWB.out, HT1.out]; simp)
                  clear h1
                  go_wp2
                  go_round
                  case rel => exact ⟨j + 1, by omega, by go_num, by rw [HW.out]; go_num⟩
                  case measure => simp [intOf]; omega
                | true =>
                  by_cases h3 : m = 0
                  · have HW := Lib.hid (show wh ts f t1 (j + 1) = j + 1 by rw [HST.out, HWB.out, HT1.out]; simp [h3])
                    have h3' : ((m : Int) == 0) = true := by simp; omega
                    have h3'' : (m == 0) = true := by simp; omega
                    clear h1 h3
                    go_wp2
                    go_round
                    case rel => exact ⟨j + 1, by omega, by go_num, by rw [HW.out]; go_num⟩
                    case measure => simp [intOf]; omega
                  · have hm1 : 0 < m := by omega
                    have HW := Lib.hid (show wh ts f t1 (j + 1) = u by rw [HST.out, HWB.out, HT1.out]; simp [hm1]; omega)
                    have h3' : ((m : Int) == 0) = false := by simp; omega
                    have h3'' : (m == 0) = false := by simp; omega
                    clear h1 h3
                    go_wp2
                    go_round
                    case rel => exact ⟨j + 1, by omega, by go_num, by rw [HW.out]⟩
                    case measure => simp [intOf]; omega
              · have HW := Lib.hid (show wh ts E t1 (j + 1) = u by rw [HST.out, HWB.out]; simp [h1, h2])
                have h2' : ((f : Int) == (E : Int)) = false := by simp; omega
                have h2'' : (f == E) = false := by simpa using h2
                clear h1 h2
                go_wp2
                go_round
                case rel => exact ⟨j + 1, by omega, by go_num, by rw [HW.out]⟩
                case measure => simp [intOf]; omega
          · obtain rfl : j = 8 := by omega
            obtain ⟨u, hu⟩ : ∃ u, u = wh ts E t1 8 := ⟨_, rfl⟩
            rw [← hu]
            have hu8 : u ≤ 8 := by rw [hu]; exact wh_le _ _ _ _
            have hR : R = ts.take u := by rw [hu]; exact HR.out
            have hku : kp ≤ u := by rw [hu]; exact HKU.out
            have hRl : R.length = u := by rw [hR, List.length_take, HLEN.out]; omega
            obtain ⟨ga, cap, hA4, hl4, _⟩ := HR9.out.form (by omega)
            injection hA4 with hA4 _ hc4
            subst hA4 hc4
            have hc48 := own_cap HR9.out
            have h5 := strsB_own HR5.out
            have h9 : StrsB w2 w2.heap.size (some ⟨ga, 0, none⟩) R := by
              rw [hR]
              have h := HR9.out
              rw [← HLEN.out] at h
              exact strs_take (strsB_own h) u
            have HVT := Lib.hid (vTexts_same A5 (some ⟨ga, 0, none⟩) R.length c5 c4 R w2.heap.size w2 rfl h5 h9 (Nat.le_refl _) (by omega))
            rw [hRl] at HVT
            rw [hRl]
            have hu0 : (0 : Int) ≤ (u : Int) := by omega
            have hu4 : (u : Int) ≤ (c4 : Int) := by omega
            have hu4' : u ≤ c4 := by omega
            have hku' : (kp : Int) ≤ (u : Int) := by omega
            clear hu hR hRl h5 h9 hl4
            go_wp2_with fail
            refine HVT.out.mono ?_
            rintro e w3 ⟨rfl, hb3⟩
            have he3 := (hb3.block _ (blk_lt HE2.out)).trans HE2.out
            clear x1 c0
            have x1 := cell_of_row _ _ 1 _ _ (0, 0) he3
            simp only [List.getElem?_toArray, List.getElem?_cons_zero, List.getElem?_cons_succ] at x1
            have hgw : w.heap.size ≤ w2.heap.size := by rw [← HGD.out]; exact Nat.le_trans (Nat.le_of_lt hgl) hws2
            have HFIN := Lib.hid (show Below w.heap.size w w3 from (by rw [← HGD.out]; exact HBF.out : Below w.heap.size w w2).trans (hb3.mono hgw))
            clear he3 hb3
            go_wp2
            go_ret
            exact ⟨rfl, HFIN.out⟩
  · have HV := Lib.hid (fun W => vBig_yes A n c W (by omega))
    clear hn h hm
    go_enter Try.func4, Try.ntmps4
    go_wp2_with fail
    refine (HV.out _).mono ?_
    rintro e w1 ⟨rfl, rfl⟩
    go_wp2
    go_ret
    exact ⟨rfl, Below.refl _ _⟩
end Go.Proofs.Ytcjejbnogghkcaa.Dk
