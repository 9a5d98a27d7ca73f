/-
  Contracts for the model's drawing of disks: spoilt, l6Make.
-/
import Derived.Test.YtcjejbnogghkcaaDkDraw
import Derived.Test.YtcjejbnogghkcaaDk5s
import Derived.Test.YtcjejbnogghkcaaDk6
import Derived.Deep.DeepCutAuto
import Derived.Deep.RegionLaw
namespace Go.Proofs.Ytcjejbnogghkcaa.Dk
open Go.RowKit
set_option linter.unusedVariables false
set_option linter.unusedSimpArgs false

theorem size_one (b : UInt8) : (⟨#[b]⟩ : ByteArray).size = 1 := rfl
theorem sp1 (r : ByteArray) (i : Nat) (b : UInt8) (h : i ≤ r.size) : (r.extract 0 i ++ ⟨#[b]⟩ ++ r.extract i r.size).size = r.size + 1 := by
  rw [ByteArray.size_append, ByteArray.size_append, ByteArray.size_extract, ByteArray.size_extract, size_one]; omega
theorem sp2 (r : ByteArray) (i : Nat) (b : UInt8) (h : i < r.size) : (r.extract 0 i ++ ⟨#[b]⟩ ++ r.extract (i + 1) r.size).size = r.size := by
  rw [ByteArray.size_append, ByteArray.size_append, ByteArray.size_extract, ByteArray.size_extract, size_one]; omega
theorem sp3 (r : ByteArray) (i : Nat) (h : i < r.size) : (r.extract 0 i ++ r.extract (i + 1) r.size).size = r.size - 1 := by
  rw [ByteArray.size_append, ByteArray.size_extract, ByteArray.size_extract]; omega

set_option maxRecDepth 100000 in
set_option maxHeartbeats 2000000 in
theorem spoilt_any (g : Nat) (l : List UInt8) (A : Option Addr) (c q : Nat) (t v : ByteArray) (w : World) (h : Cur w g l A c q) (hl : l.length ≤ 1048576) (hq : q ≤ 800000000) (ht : t.size ≤ 1000000) (hv : 1 ≤ v.size) (hv2 : v.size ≤ 100) :
    Calls Try.prog 87 #[.pointer (some ⟨g, 0, none⟩), .string t, .string v] w (StrPost w g l A c q 20 (t.size + 2)) := by
  have H := Lib.hid h
  clear h
  go_enter Try.func87, Try.ntmps87
  go_wp2_with fail
  refine (pick_any g l A c q 2 _ H.out hl (by omega) (by omega) (by omega)).mono ?_
  rintro e w1 ⟨x, q1, hx0, hx1, rfl, hq1, hC1, hG1⟩
  go_wp2_with fail
  go_loopw [1, 7] (fun s n wr => ∃ (r : ByteArray) (m q' : Nat), s = .string r ∧ n = .int .i64 (m : Int) ∧ m ≤ 2 ∧ r.size + m ≤ t.size + 2 ∧ q' + 6 * m ≤ q + 20 ∧ Cur wr g l A c q' ∧ w.grownBy wr (some g)) (fun _ n _ => (intOf n).toNat)
  case atStart =>
    obtain ⟨k0, rfl⟩ := nat_of hx0
    exact ⟨t, 1 + k0, q1, rfl, by go_num, by omega, by omega, by omega, hC1, hG1⟩
  case round =>
    clear hC1 hG1
    obtain ⟨r, m, q', rfl, rfl, hm, hr, hq', hC, hG⟩ := hrel
    by_cases hm0 : 0 < m
    · by_cases hr0 : 0 < r.size
      · go_wp2_with fail
        refine (pick_any g l A c q' (r.size : Int) _ hC hl (by omega) (by omega) (by omega)).mono ?_
        rintro e w2 ⟨i, q2, hi0, hi1, rfl, hq2, hC2, hG2⟩
        obtain ⟨i, rfl⟩ := nat_of hi0
        go_wp2_with fail
        refine (pick_any g l A c q2 (v.size : Int) _ hC2 hl (by omega) (by omega) (by omega)).mono ?_
        rintro e w3 ⟨j, q3, hj0, hj1, rfl, hq3, hC3, hG3⟩
        obtain ⟨j, rfl⟩ := nat_of hj0
        have hjv : j < v.size := by omega
        have hji : (j : Int) < (v.size : Int) := by omega
        have hcv := fun (W : World) => C1.conv_one W v[j] (v[j].toNat : Int) rfl
        have hir : (i : Int) ≤ (r.size : Int) := by omega
        have hir1 : (i : Int) + 1 ≤ (r.size : Int) := by omega
        have hrs : (r.size : Int) ≤ 1000002 := by omega
        go_wp2_with fail
        refine (pick_any g l A c q3 3 _ (hC3.below ((Below.refl _ _).alloc (Nat.le_refl _) _)) hl (by omega) (by omega) (by omega)).mono ?_
        rintro e w4 ⟨y, q4, hy0, hy1, rfl, hq4, hC4, hG4⟩
        have hG04 := grown_trans (grown_trans (grown_trans hG hG2) hG3) (grown_trans (World.grownBy_alloc w3 _ (some g)) hG4)
        have hy : y = 0 ∨ y = 1 ∨ y = 2 := by omega
        clear hcv hG hG2 hG3 hG4 hC hC2 hC3
        rcases hy with rfl | rfl | rfl
        · go_wp2_with fail
          go_quiet (fail)
          go_wp2
          go_roundw
          case rel => exact ⟨_, m - 1, q4, rfl, by go_num, by omega, by rw [sp1 r i _ (by omega)]; omega, by omega, hC4.drewN _, grown_drewN hG04 _⟩
          case measure => simp [intOf]; omega
        · go_wp2_with fail
          go_quiet (fail)
          go_wp2
          go_roundw
          case rel => exact ⟨_, m - 1, q4, rfl, by go_num, by omega, by rw [sp2 r i _ (by omega)]; omega, by omega, hC4.drewN _, grown_drewN hG04 _⟩
          case measure => simp [intOf]; omega
        · go_wp2_with fail
          go_quiet (fail)
          go_wp2
          go_roundw
          case rel => exact ⟨_, m - 1, q4, rfl, by go_num, by omega, by rw [sp3 r i (by omega)]; omega, by omega, hC4.drewN _, grown_drewN hG04 _⟩
          case measure => simp [intOf]; omega
      · go_wp2
        go_ret
        exact ⟨r, q', rfl, by omega, by omega, hC, hG⟩
    · go_wp2
      go_ret
      exact ⟨r, q', rfl, by omega, by omega, hC, hG⟩


theorem alloc_two (w : World) (a b : Obj) : ((w.alloc a).alloc b).heap[w.heap.size]? = some a ∧ ((w.alloc a).alloc b).heap[w.heap.size + 1]? = some b ∧ Below w.heap.size w ((w.alloc a).alloc b) ∧ ((w.alloc a).alloc b).heap.size = w.heap.size + 2 := by
  have h1 := heap_alloc_new w a
  have h2 := heap_alloc_new (w.alloc a) b
  rw [World.size_alloc] at h2
  exact ⟨(Below.heap_alloc _ _ _ (by simp)).trans h1, h2, below2 w a b, by simp⟩
/-- Some disk, with at most m bytes, the cursor gone on by at most d. -/
def DiskPost (w : World) (g : Nat) (l : List UInt8) (A : Option Addr) (c q d m : Nat) (e : Ending) (w' : World) : Prop :=
  ∃ (k r : ByteArray) (q' : Nat), e = .returned (.agg #[.string k, .string r]) ∧ k.size + r.size ≤ m ∧ q' ≤ q + d ∧ Cur w' g l A c q' ∧ w.grownBy w' (some g)
theorem writeA_small (k r t : ByteArray) (m : Nat) (h : k.size + r.size ≤ m) (ht : t.size ≤ 701) : (writeA k r t).1.size + (writeA k r t).2.1.size ≤ m + 714 := by
  have hf := (frm_bound t).2
  unfold writeA
  split
  · show k.size + (r ++ frm t).size ≤ _
    rw [ByteArray.size_append]; omega
  · show (0 : Nat) + 0 ≤ _; omega
theorem syncA_small (k r : ByteArray) (m : Nat) (h : k.size + r.size ≤ m) : (syncA k r).1.size + (syncA k r).2.1.size ≤ m := by
  unfold syncA
  split
  · show (k ++ r).size + 0 ≤ _
    rw [ByteArray.size_append]; omega
  · show (0 : Nat) + 0 ≤ _; omega
theorem grown_setnew {w w1 : World} {row : Option Nat} (h : w.grownBy w1 row) {p : Addr} (hp : w.heap.size ≤ p.block) (u : Value) : w.grownBy (w1.setCell p u) row :=
  ⟨h.os, h.tape, h.output, by have := h.size; simp [World.setCell]; omega, fun k hk hr => (Below.heap_setCell _ _ _ _ (by intro e; omega)).trans (h.block k hk hr)⟩
theorem cur_set {w : World} {g c q : Nat} {l : List UInt8} {A : Option Addr} (h : Cur w g l A c q) {p : Addr} (hp : g < p.block) (u : Value) : Cur (w.setCell p u) g l A c q :=
  h.belowB (B := g + 1) ((Below.refl _ _).setCell (p := p) hp u) (Nat.lt_succ_self _)

/-- What the loop of l6Make keeps. -/
def MRel (w : World) (g : Nat) (l : List UInt8) (A : Option Addr) (c q gr gd j : Nat) (wr : World) : Prop :=
  ∃ (k r : ByteArray) (q' : Nat), wr.heap[gd]? = some (.cells #[.string k, .string r] 30 (0, 0)) ∧ wr.heap[gr]? = some (.cells #[.string ⟨#[]⟩, .string ⟨#[]⟩] 30 (0, 0)) ∧ k.size + r.size ≤ 714 * j ∧ q' ≤ q + 10 * j ∧ Cur wr g l A c q' ∧ w.grownBy wr (some g)
/-- What its first statement leaves: a disk with one text more, if there was room. -/
def NRel (w : World) (g : Nat) (l : List UInt8) (A : Option Addr) (c q gr gd : Nat) (k r : ByteArray) (s6 s7 : Value) (wx : World) : Prop :=
  ∃ (t : ByteArray) (g6 q2 : Nat), t.size ≤ 701 ∧ s6 = .pointer (some ⟨g6, 0, none⟩) ∧ s7 = .bool (writeA k r t).2.2 ∧ wx.heap[g6]? = some (.cells #[.string (writeA k r t).1, .string (writeA k r t).2.1] 30 (0, 0)) ∧
    wx.heap[gd]? = some (.cells #[.string k, .string r] 30 (0, 0)) ∧ wx.heap[gr]? = some (.cells #[.string ⟨#[]⟩, .string ⟨#[]⟩] 30 (0, 0)) ∧ q2 ≤ q + 4 ∧ Cur wx g l A c q2 ∧ w.grownBy wx (some g)

set_option maxRecDepth 100000 in
set_option maxHeartbeats 8000000 in
theorem l6Make_any (g : Nat) (l : List UInt8) (A : Option Addr) (c q : Nat) (w : World) (h : Cur w g l A c q) (hl : l.length ≤ 1048576) (hq : q ≤ 700000000) :
    Calls Try.prog 86 #[.pointer (some ⟨g, 0, none⟩)] w (DiskPost w g l A c q 50 2900) := by
  have hgw := h.lt
  have hr0 := alloc_two w (.cells #[.string ⟨#[]⟩, .string ⟨#[]⟩] 30) (.cells #[.string ⟨#[]⟩, .string ⟨#[]⟩] 30)
  obtain ⟨k0, k1, kb, ksz⟩ := hr0
  have HP := Lib.hid (pick_any g l A c q 5 _ (h.below kb) hl (by omega) (by omega) (by omega))
  have K0 := Lib.hid k0
  have K1 := Lib.hid k1
  have KB := Lib.hid kb
  have KS := Lib.hid ksz
  have HTX := Lib.hid (fun q' W (hC : Cur W g l A c q') hq' => l6Text_any g l A c q' W hC hl hq')
  have HON := Lib.hid (fun q' W (hC : Cur W g l A c q') hq' => one_any g l A c q' 3 W hC hl hq' (by omega) (by omega))
  clear h k0 k1 kb ksz
  go_enter Try.func86, Try.ntmps86
  go_wp2_with fail
  refine HP.out.mono ?_
  rintro e w1 ⟨x, q1, hx0, hx1, rfl, hq1, hC1, hG1⟩
  obtain ⟨n, rfl⟩ := nat_of hx0
  have hn : n ≤ 4 := by omega
  have m0 := (hG1.block w.heap.size (by rw [KS.out]; omega) (by simp; omega)).trans K0.out
  have m1 := (hG1.block (w.heap.size + 1) (by rw [KS.out]; omega) (by simp; omega)).trans K1.out
  have HST := Lib.hid (show MRel w g l A c (q + 2) w.heap.size (w.heap.size + 1) 0 w1 from ⟨⟨#[]⟩, ⟨#[]⟩, q1, m1, m0, by decide, by omega, hC1, grown_trans (grown_below (grown_refl _ _) KB.out) hG1⟩)
  clear hx1 hC1 hG1 m0 m1
  go_wp2_with fail
  go_loopw [5] (fun i wr => ∃ j : Nat, j ≤ n ∧ i = .int .i64 (j : Int) ∧ MRel w g l A c (q + 2) w.heap.size (w.heap.size + 1) j wr) (fun i _ => n - (intOf i).toNat)
  case atStart => exact ⟨0, Nat.zero_le _, rfl, HST.out⟩
  case round =>
    clear HST
    obtain ⟨j, hj, rfl, k, r, q', hd, hres, hsz, hq', hC, hG⟩ := hrel
    by_cases hlt : j < n
    · have hlt' : (j : Int) < (n : Int) := by omega
      have HD1 := Lib.hid hd
      have HR1 := Lib.hid hres
      have HC := Lib.hid hC
      have HG := Lib.hid hG
      have hgl := blk_lt hd
      have hgl0 := blk_lt hres
      have c0 := cell_of_row _ _ 0 _ _ (0, 0) hd
      have c1 := cell_of_row _ _ 1 _ _ (0, 0) hd
      simp only [List.getElem?_toArray, List.getElem?_cons_zero, List.getElem?_cons_succ] at c0 c1
      have HT := Lib.hid (fun W (hC : Cur W g l A c q') => HTX.out q' W hC (by omega))
      have HW := Lib.hid (fun t (ht : t.size ≤ 701) W => specWrite_any k r t W (by omega) (by omega) (by omega))
      simp only [DAns] at HW
      clear hd hres hC hG
      have HCA := Lib.hid (show Cur (wr.alloc (.cells #[.string ⟨#[]⟩, .string ⟨#[]⟩] 30)) g l A c q' from HC.out.below ((Below.refl _ _).alloc (Nat.le_refl _) _))
      go_upto_region 6 with fail
      go_cut [6, 7] (fun s6 s7 wx => NRel w g l A c q' w.heap.size (w.heap.size + 1) k r s6 s7 wx)
      case first =>
        go_region_law (first | ((go_simp; go_at_call 47; (first | ((with_reducible refine (HT.out _ ?_).mono ?_); (first | exact HC.out | exact HCA.out))); intro e w2 hres2; obtain ⟨t, q2, rfl, ht, hq2, hC2, hG2⟩ := hres2; (first | (have hG4 : (wr.alloc (.cells #[.string ⟨#[]⟩, .string ⟨#[]⟩] 30)).drew.grownBy w2 (some g) := hG2; have hG3 : (wr.alloc (.cells #[.string ⟨#[]⟩, .string ⟨#[]⟩] 30)).grownBy w2 (some g) := ⟨hG4.os, hG4.tape, hG4.output, hG4.size, hG4.block⟩; clear hG4; have kb : w2.heap[wr.heap.size]? = some (.cells #[.string ⟨#[]⟩, .string ⟨#[]⟩] 30 (0, 0)) := (hG3.block wr.heap.size (by rw [World.size_alloc]; exact Nat.lt_succ_self wr.heap.size) (by simp; omega)).trans (heap_alloc_new wr _); have HGW := Lib.hid (grown_trans (show wr.grownBy (wr.alloc (.cells #[.string ⟨#[]⟩, .string ⟨#[]⟩] 30)) (some g) from World.grownBy_alloc wr _ (some g)) hG3)) | (have hG3 : wr.drew.grownBy w2 (some g) := hG2; have HGW := Lib.hid (show wr.grownBy w2 (some g) from ⟨hG3.os, hG3.tape, hG3.output, hG3.size, hG3.block⟩))); have hd2 : w2.heap[w.heap.size + 1]? = _ := (HGW.out.block (w.heap.size + 1) hgl (by simp; omega)).trans HD1.out; have hr2 : w2.heap[w.heap.size]? = _ := (HGW.out.block w.heap.size hgl0 (by simp; omega)).trans HR1.out; have z0 := cell_of_row _ _ 0 _ _ (0, 0) hd2; have z1 := cell_of_row _ _ 1 _ _ (0, 0) hd2; have hl2 := blk_lt hd2; have hl20 := blk_lt hr2; have hsw2 := HGW.out.size; have HD2 := Lib.hid hd2; have HR2 := Lib.hid hr2; have HC2 := Lib.hid hC2; clear hd2 hr2 hG2 hG3 hC2)) | ((go_simp; go_at_call 23; (with_reducible refine (HW.out t ht _).mono ?_); rintro e w5 ⟨rfl, hb5⟩; (first | (have hb6 : Below (w2.alloc (.cells #[.string ⟨#[]⟩, .string ⟨#[]⟩] 30)).heap.size (w2.alloc (.cells #[.string ⟨#[]⟩, .string ⟨#[]⟩] 30)) w5 := hb5; have hb7 := (below1 w2 (.cells #[.string ⟨#[]⟩, .string ⟨#[]⟩] 30)).trans (hb6.mono (below1 w2 (.cells #[.string ⟨#[]⟩, .string ⟨#[]⟩] 30)).size); have kb5 : w5.heap[w2.heap.size]? = some (.cells #[.string ⟨#[]⟩, .string ⟨#[]⟩] 30 (0, 0)) := (hb6.block w2.heap.size (by simp)).trans (heap_alloc_new w2 _); have hgn : w.heap.size + 1 < w2.heap.size := hl2) | (have hb7 : Below w2.heap.size w2 w5 := hb5; have kb5 := (hb7.block _ (blk_lt kb)).trans kb; have hgn : w.heap.size + 1 < wr.heap.size := hgl) | (have hb7 : Below w2.heap.size w2 w5 := hb5)); have hd5 := (hb7.block _ hl2).trans HD2.out; have hr5 := (hb7.block _ hl20).trans HR2.out; have HD5 := Lib.hid hd5; have HR5 := Lib.hid hr5; have HC5 := Lib.hid (HC2.out.below hb7); have HG5 := Lib.hid (grown_below (grown_trans HG.out HGW.out) hb7); (try (have y0 := cell_of_row _ _ 0 _ _ (0, 0) kb5; have y1 := cell_of_row _ _ 1 _ _ (0, 0) kb5; have yf := free_row kb5)); have hl5 := blk_lt hd5; clear hd5 hr5 hb5 hb7)))
        all_goals (go_wp2_with fail; go_meet; first
          | exact ⟨t, _, q2, ht, rfl, rfl, heap_alloc_new _ _, (Below.heap_alloc _ _ _ (blk_lt HD5.out)).trans HD5.out, (Below.heap_alloc _ _ _ (blk_lt HR5.out)).trans HR5.out, hq2, HC5.out.below ((Below.refl _ _).alloc (Nat.le_refl _) _), grown_below HG5.out ((Below.refl _ _).alloc (Nat.le_refl _) _)⟩
          | exact ⟨t, _, q2, ht, rfl, rfl, set_two kb5, set_oth (set_oth HD5.out (by show _ ≠ _; simp only []; omega) _) (by show _ ≠ _; simp only []; omega) _, set_oth (set_oth HR5.out (by show _ ≠ _; simp only []; omega) _) (by show _ ≠ _; simp only []; omega) _, hq2, cur_set (cur_set HC5.out (by simp only []; omega) _) (by simp only []; omega) _, grown_setnew (grown_setnew HG5.out (by simp only []; omega) _) (by simp only []; omega) _⟩)
      case rest =>
        obtain ⟨t, g6, q2, ht, rfl, rfl, h6, hd, hres, hq2, hC2, hG2⟩ := hcut
        have hws := writeA_small k r t (714 * j) hsz ht
        obtain ⟨⟨k2, r2, ok⟩, hw2⟩ : ∃ z, z = writeA k r t := ⟨_, rfl⟩
        rw [← hw2] at hws h6 ⊢
        simp only at hws h6 ⊢
        clear hw2 c0 c1
        cases ok with
        | false =>
          have HDw := Lib.hid hd
          have HRw := Lib.hid hres
          have HCw := Lib.hid hC2
          have HGw := Lib.hid hG2
          clear hd hres hC2 hG2 h6
          have c0 := cell_of_row _ _ 0 _ _ (0, 0) HDw.out
          have c1 := cell_of_row _ _ 1 _ _ (0, 0) HDw.out
          simp only [List.getElem?_toArray, List.getElem?_cons_zero, List.getElem?_cons_succ] at c0 c1
          have HO := Lib.hid (HON.out q2 _ HCw.out (by omega))
          go_wp2_with fail
          refine HO.out.mono ?_
          rintro e w7 ⟨x, q3, rfl, hq3, hC3, hG3⟩
          have hd7 := (hG3.block (w.heap.size + 1) (blk_lt HDw.out) (by simp; omega)).trans HDw.out
          have hr7 := (hG3.block w.heap.size (blk_lt HRw.out) (by simp; omega)).trans HRw.out
          have HD7 := Lib.hid hd7
          have HR7 := Lib.hid hr7
          have HC7 := Lib.hid hC3
          have HG7 := Lib.hid (grown_trans HGw.out hG3)
          clear c0 c1 hd7 hr7 hC3 hG3
          cases x with
          | false =>
            go_wp2
            go_roundw
            case rel => exact ⟨j + 1, by omega, by go_num, k, r, q3, HD7.out, HR7.out, by omega, by omega, HC7.out, HG7.out⟩
            case measure => simp [intOf]; omega
          | true =>
            have c0 := cell_of_row _ _ 0 _ _ (0, 0) HD7.out
            have c1 := cell_of_row _ _ 1 _ _ (0, 0) HD7.out
            simp only [List.getElem?_toArray, List.getElem?_cons_zero, List.getElem?_cons_succ] at c0 c1
            have hsy := syncA_small k r (714 * (j + 1)) (by omega)
            have HSY := Lib.hid (fun W => specSync_any k r W (by omega) (by omega))
            obtain ⟨⟨k3, r3, ok3⟩, hs3⟩ : ∃ z, z = syncA k r := ⟨_, rfl⟩
            rw [← hs3] at HSY hsy
            simp only [DAns] at HSY
            simp only at hsy
            clear hs3
            go_wp2_with fail
            refine (HSY.out _).mono ?_
            rintro e w8 ⟨rfl, hb8⟩
            have hd8 := (hb8.block _ (blk_lt HD7.out)).trans HD7.out
            have hr8 := (hb8.block _ (blk_lt HR7.out)).trans HR7.out
            clear c0 c1
            have c0 := cell_of_row _ _ 0 _ _ (0, 0) hd8
            have c1 := cell_of_row _ _ 1 _ _ (0, 0) hd8
            simp only [List.getElem?_toArray, List.getElem?_cons_zero, List.getElem?_cons_succ] at c0 c1
            have fz := free_row hd8
            have HD8 := Lib.hid hd8
            have HR8 := Lib.hid hr8
            have HC8 := Lib.hid (HC7.out.below hb8)
            have HG8 := Lib.hid (grown_below HG7.out hb8)
            clear hd8 hr8 hb8
            go_wp2
            go_roundw
            case rel => exact ⟨j + 1, by omega, by go_num, k3, r3, q3, set_two HD8.out, set_oth (set_oth HR8.out (by show w.heap.size + 1 ≠ w.heap.size; omega) _) (by show w.heap.size + 1 ≠ w.heap.size; omega) _, by omega, by omega, cur_set (cur_set HC8.out (show g < w.heap.size + 1 by omega) _) (show g < w.heap.size + 1 by omega) _, grown_setnew (grown_setnew HG8.out (show w.heap.size ≤ w.heap.size + 1 by omega) _) (show w.heap.size ≤ w.heap.size + 1 by omega) _⟩
            case measure => simp [intOf]; omega
        | true =>
          have c0 := cell_of_row _ _ 0 _ _ (0, 0) h6
          have c1 := cell_of_row _ _ 1 _ _ (0, 0) h6
          have d0 := cell_of_row _ _ 0 _ _ (0, 0) hd
          have d1 := cell_of_row _ _ 1 _ _ (0, 0) hd
          simp only [List.getElem?_toArray, List.getElem?_cons_zero, List.getElem?_cons_succ] at c0 c1 d0 d1
          have fz := free_row hd
          have HDw := Lib.hid (set_two (a := .string k2) (b := .string r2) hd)
          have HRw := Lib.hid (set_oth (set_oth hres (show w.heap.size + 1 ≠ w.heap.size by omega) (p := ⟨w.heap.size + 1, 0, none⟩) (.string k2)) (show w.heap.size + 1 ≠ w.heap.size by omega) (p := ⟨w.heap.size + 1, 1, none⟩) (.string r2))
          have HCw := Lib.hid (cur_set (cur_set hC2 (p := ⟨w.heap.size + 1, 0, none⟩) (show g < w.heap.size + 1 by omega) (.string k2)) (p := ⟨w.heap.size + 1, 1, none⟩) (show g < w.heap.size + 1 by omega) (.string r2))
          have HGw := Lib.hid (grown_setnew (grown_setnew hG2 (p := ⟨w.heap.size + 1, 0, none⟩) (show w.heap.size ≤ w.heap.size + 1 by omega) (.string k2)) (p := ⟨w.heap.size + 1, 1, none⟩) (show w.heap.size ≤ w.heap.size + 1 by omega) (.string r2))
          clear hd hres hC2 hG2 h6
          go_upto_region 9 with fail
          clear c0 c1 d0 d1 fz
          have c0 := cell_of_row _ _ 0 _ _ (0, 0) HDw.out
          have c1 := cell_of_row _ _ 1 _ _ (0, 0) HDw.out
          simp only [List.getElem?_toArray, List.getElem?_cons_zero, List.getElem?_cons_succ] at c0 c1
          have HO := Lib.hid (HON.out q2 _ HCw.out (by omega))
          go_wp2_with fail
          refine HO.out.mono ?_
          rintro e w7 ⟨x, q3, rfl, hq3, hC3, hG3⟩
          have hd7 := (hG3.block (w.heap.size + 1) (blk_lt HDw.out) (by simp; omega)).trans HDw.out
          have hr7 := (hG3.block w.heap.size (blk_lt HRw.out) (by simp; omega)).trans HRw.out
          have HD7 := Lib.hid hd7
          have HR7 := Lib.hid hr7
          have HC7 := Lib.hid hC3
          have HG7 := Lib.hid (grown_trans HGw.out hG3)
          clear c0 c1 hd7 hr7 hC3 hG3
          cases x with
          | false =>
            go_wp2
            go_roundw
            case rel => exact ⟨j + 1, by omega, by go_num, k2, r2, q3, HD7.out, HR7.out, by omega, by omega, HC7.out, HG7.out⟩
            case measure => simp [intOf]; omega
          | true =>
            have c0 := cell_of_row _ _ 0 _ _ (0, 0) HD7.out
            have c1 := cell_of_row _ _ 1 _ _ (0, 0) HD7.out
            simp only [List.getElem?_toArray, List.getElem?_cons_zero, List.getElem?_cons_succ] at c0 c1
            have hsy := syncA_small k2 r2 (714 * (j + 1)) (by omega)
            have HSY := Lib.hid (fun W => specSync_any k2 r2 W (by omega) (by omega))
            obtain ⟨⟨k3, r3, ok3⟩, hs3⟩ : ∃ z, z = syncA k2 r2 := ⟨_, rfl⟩
            rw [← hs3] at HSY hsy
            simp only [DAns] at HSY
            simp only at hsy
            clear hs3
            go_wp2_with fail
            refine (HSY.out _).mono ?_
            rintro e w8 ⟨rfl, hb8⟩
            have hd8 := (hb8.block _ (blk_lt HD7.out)).trans HD7.out
            have hr8 := (hb8.block _ (blk_lt HR7.out)).trans HR7.out
            clear c0 c1
            have c0 := cell_of_row _ _ 0 _ _ (0, 0) hd8
            have c1 := cell_of_row _ _ 1 _ _ (0, 0) hd8
            simp only [List.getElem?_toArray, List.getElem?_cons_zero, List.getElem?_cons_succ] at c0 c1
            have fz := free_row hd8
            have HD8 := Lib.hid hd8
            have HR8 := Lib.hid hr8
            have HC8 := Lib.hid (HC7.out.below hb8)
            have HG8 := Lib.hid (grown_below HG7.out hb8)
            clear hd8 hr8 hb8
            go_wp2
            go_roundw
            case rel => exact ⟨j + 1, by omega, by go_num, k3, r3, q3, set_two HD8.out, set_oth (set_oth HR8.out (by show w.heap.size + 1 ≠ w.heap.size; omega) _) (by show w.heap.size + 1 ≠ w.heap.size; omega) _, by omega, by omega, cur_set (cur_set HC8.out (show g < w.heap.size + 1 by omega) _) (show g < w.heap.size + 1 by omega) _, grown_setnew (grown_setnew HG8.out (show w.heap.size ≤ w.heap.size + 1 by omega) _) (show w.heap.size ≤ w.heap.size + 1 by omega) _⟩
            case measure => simp [intOf]; omega
    · have hjn : j = n := by omega
      subst hjn
      have c0 := cell_of_row _ _ 0 _ _ (0, 0) hd
      have c1 := cell_of_row _ _ 1 _ _ (0, 0) hd
      have d0 := cell_of_row _ _ 0 _ _ (0, 0) hres
      have d1 := cell_of_row _ _ 1 _ _ (0, 0) hres
      simp only [List.getElem?_toArray, List.getElem?_cons_zero, List.getElem?_cons_succ] at c0 c1 d0 d1
      have fz := free_row hres
      have HE := Lib.hid (show DiskPost w g l A c q 50 2900 (.returned (.agg #[.string k, .string r])) ((wr.setCell ⟨w.heap.size, 0, none⟩ (.string k)).setCell ⟨w.heap.size, 1, none⟩ (.string r)) from
        ⟨k, r, q', rfl, by omega, by omega, cur_set (cur_set hC (show g < w.heap.size from hgw) _) (show g < w.heap.size from hgw) _, grown_setnew (grown_setnew hG (Nat.le_refl w.heap.size) _) (Nat.le_refl w.heap.size) _⟩)
      clear hd hres hC hG hlt
      go_wp2
      exact bodyPost_ret (v := .agg #[.string k, .string r]) (by simp [results, Try.results86, go_sem, d0, d1, fz]) rfl HE.out
end Go.Proofs.Ytcjejbnogghkcaa.Dk
