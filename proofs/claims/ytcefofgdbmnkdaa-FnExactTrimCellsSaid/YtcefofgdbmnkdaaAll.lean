/-
  Contracts for the snapshot at a time: l3All, CellsAt of the model; CellsAt of the program. What comes back is owned.
-/
import Derived.Test.YtcefofgdbmnkdaaLook
import Derived.Test.YtcefofgdbmnkdaaTo
import Derived.Deep.AppendLies
namespace Go.Proofs.Ytcefofgdbmnkdaa
open Go.RowKit CM
set_option linter.unusedVariables false

theorem below_app {base sz : Nat} {w wr w1 : World} {v : Value} {n : Nat} {xs : List Value} {e : TypeId} {o : Obj} (hbel : Below base w wr) (hbase : base ≤ w.heap.size) (h : wr.ownsRow base e sz v n xs)
    (hg : (wr.alloc o).grownBy w1 v.ownBlock) : Below base w w1 := by
  have hs := hbel.size
  exact (hbel.alloc (by omega) o).grown hg (by simp; omega) (fun k hk => (h.lt k hk).1)

theorem alloc_snd (w : World) (o p : Obj) : ((w.alloc o).alloc p).heap[w.heap.size + 1]? = some p := by
  have := heap_alloc_new (w.alloc o) p
  simpa using this
theorem row_below {base sz : Nat} {w w' : World} {v : Value} {n : Nat} {xs : List Value} {e : TypeId} (h : w.ownsRow base e sz v n xs) (hb : Below w.heap.size w w') : w'.ownsRow base e sz v n xs := by
  refine ⟨h.1, ?_⟩
  rcases h.2 with h2 | ⟨g, cap, cur, hv, hbs, hh, h3⟩
  · exact .inl h2
  · exact .inr ⟨g, cap, cur, hv, hbs, (hb.block g (lt_blk hh)).trans hh, h3⟩
theorem allC_take (cs : List (ByteArray × List (Int × ByteArray × Bool))) (t : Int) (k : Nat) (h : k < cs.length) : allC (cs.take (k + 1)) t = allC (cs.take k) t ++ (if (lookV cs[k].2 t).2 then [(cs[k].1, (lookV cs[k].2 t).1, false)] else []) := by
  rw [List.take_succ_eq_append_getElem h]
  unfold allC
  rw [List.filterMap_append]
  congr 1
  simp only [List.filterMap_cons, List.filterMap_nil]
  split <;> split <;> simp_all
theorem allC_len (cs : List (ByteArray × List (Int × ByteArray × Bool))) (t : Int) : (allC cs t).length ≤ cs.length := List.length_filterMap_le _ _

/-- The row of writes so far. -/
def AllRel (cs : List (ByteArray × List (Int × ByteArray × Bool))) (t : Int) (w : World) (k : Nat) (v : Value) (wr : World) : Prop :=
  wr.ownsRow w.heap.size 34 3 v (allC (cs.take k) t).length ((allC (cs.take k) t).map wrCs).flatten ∧ Below w.heap.size w wr
theorem AllRel.start (cs : List (ByteArray × List (Int × ByteArray × Bool))) (t : Int) (w : World) : AllRel cs t w 0 (.slice none 0 0) w := by
  refine ⟨?_, Below.refl _ _⟩
  have : allC (cs.take 0) t = [] := rfl
  rw [this]
  exact ⟨rfl, .inl ⟨rfl, rfl⟩⟩
theorem AllRel.skip {cs : List (ByteArray × List (Int × ByteArray × Bool))} {t : Int} {w wr w' : World} {k : Nat} {v : Value} {key : ByteArray} {vs : List (Int × ByteArray × Bool)} (h : AllRel cs t w k v wr) (hk : k < cs.length) (hc : cs[k] = (key, vs)) (hno : (lookV vs t).2 = false) (hb : Below wr.heap.size wr w') : AllRel cs t w (k + 1) v w' := by
  have e : allC (cs.take (k + 1)) t = allC (cs.take k) t := by rw [allC_take cs t k hk, hc]; simp [hno]
  refine ⟨?_, h.2.trans (hb.mono h.2.size)⟩
  rw [e]
  exact row_below h.1 hb
theorem AllRel.more {cs : List (ByteArray × List (Int × ByteArray × Bool))} {t : Int} {w wr w1 : World} {k : Nat} {v v1 : Value} {key s : ByteArray} {vs : List (Int × ByteArray × Bool)} (h : AllRel cs t w k v wr) (hk : k < cs.length) (hc : cs[k] = (key, vs)) (hy : lookV vs t = (s, true)) (h1 : w1.ownsRow w.heap.size 34 3 v1 ((allC (cs.take k) t).length + 1) (((allC (cs.take k) t).map wrCs).flatten ++ [.string key, .string s, .bool false])) (hb : Below w.heap.size w w1) : AllRel cs t w (k + 1) v1 w1 := by
  have e : allC (cs.take (k + 1)) t = allC (cs.take k) t ++ [(key, s, false)] := by rw [allC_take cs t k hk, hc]; simp [hy]
  refine ⟨?_, hb⟩
  rw [e, List.map_append, List.flatten_append, List.length_append]
  exact h1
/-- What comes back: writes of the call's own. -/
def AllPost (ws : List (ByteArray × ByteArray × Bool)) (w : World) (e : Ending) (w' : World) : Prop :=
  ∃ A c, e = .returned (.slice A ws.length c) ∧ OwnW w' w.heap.size w'.heap.size A c ws ∧ Below w.heap.size w w'
theorem AllRel.done {cs : List (ByteArray × List (Int × ByteArray × Bool))} {t : Int} {w wr : World} {v : Value} (h : AllRel cs t w cs.length v wr) : AllPost (allC cs t) w (.returned v) wr := by
  obtain ⟨h1, h2⟩ := h
  rw [List.take_length] at h1
  obtain ⟨A, cap, hv, hn, ho⟩ := Own.ofRow h1 (wrCs_len _) (by decide) (hi := wr.heap.size) (fun k hk => (h1.lt k hk).2)
  exact ⟨A, cap, by rw [hv, List.length_map], ho, h2⟩

set_option maxRecDepth 100000 in
set_option maxHeartbeats 2000000 in
theorem l3All_any (A : Option Addr) (n c : Nat) (hs : List (ByteArray × Option Addr × Nat × List (Int × ByteArray × Bool))) (t : Int) (B : Nat) (w : World) (hn : hs.length = n) (h : CellsB w B A hs) (hB : B ≤ w.heap.size) (hm : HSmall hs) :
    Calls Try.prog 83 #[.slice A n c, .int .i64 t] w (AllPost (allC (hs.map dat) t) w) := by
  obtain ⟨i0, hi, hz0, hz1, hz2⟩ := info_parts infoWrite
  have HN := Lib.hid hn
  have hge := Nat.le_of_eq hn
  have hle := Nat.le_of_eq hn.symm
  have hnl : n ≤ 1048576 := by rw [← hn]; exact hm.1
  have HS := Lib.hid h
  have HM := Lib.hid hm.2
  obtain ⟨cs, hcs⟩ : ∃ cs, cs = hs.map dat := ⟨_, rfl⟩
  have HCS := Lib.hid hcs
  have hcl : cs.length = n := by rw [hcs, List.length_map, hn]
  rw [← hcs]
  clear hn h hcs
  go_enter Try.func83, Try.ntmps83
  go_wp2
  go_loopw [5, 12] (fun v i wr => ∃ k : Nat, k ≤ n ∧ i = .int .i64 k ∧ AllRel cs t w k v wr) (fun _ i _ => n - (intOf i).toNat)
  case atStart => exact ⟨0, by omega, rfl, AllRel.start _ _ _⟩
  case round =>
    obtain ⟨k, hk, rfl, hr⟩ := hrel
    by_cases hlt : k < n
    · obtain ⟨b, off, rfl, hbB, hc⟩ := HS.out.get (by omega)
      obtain ⟨hc0, hc1⟩ := hc k (by omega)
      have hb := hr.2
      have c0 := (hb.cell (p := ⟨b, off + k * 2, none⟩) (Nat.lt_of_lt_of_le hbB hB)).trans hc0
      have c1 := (hb.cell (p := ⟨b, off + k * 2 + 1, none⟩) (Nat.lt_of_lt_of_le hbB hB)).trans hc1
      have hv := (HS.out.vers k (by omega)).below (hb.mono hB)
      have hsm := (HM.out _ (List.getElem_mem (show k < hs.length by omega))).2.1
      have hck : cs[k]'(by omega) = dat (hs[k]'(by omega)) := by simp [HCS.out]
      obtain ⟨y, hy⟩ : ∃ y, y = hs[k]'(by omega) := ⟨_, rfl⟩
      rw [← hy] at c0 c1 hv hsm hck
      obtain ⟨s1, ad, cp, vs⟩ := y
      simp only [dat] at c0 c1 hv hsm hck
      have HCK := Lib.hid hck
      have hw1 := below1 wr (.cells #[.string s1, .slice ad vs.length cp] 81)
      have hbx := heap_alloc_new wr (.cells #[.string s1, .slice ad vs.length cp] 81)
      have hltx : wr.heap.size < (wr.alloc (.cells #[.string s1, .slice ad vs.length cp] 81)).heap.size := by simp
      have x0 := cell_blk (i := 0) hbx rfl
      have x1 := cell_blk (i := 1) hbx rfl
      have HV := Lib.hid (l3Ver_any s1 ad vs.length cp vs t B (wr.alloc (.cells #[.string s1, .slice ad vs.length cp] 81)) rfl (hv.below (hw1.mono (Nat.le_trans hB hb.size))) (Nat.le_trans hB (Nat.le_trans hb.size hw1.size)) hsm)
      have HB1 := Lib.hid (hb.trans (hw1.mono hb.size))
      have HW1 := Lib.hid hw1
      have HR := Lib.hid hr
      clear hc hc0 hc1 hy hb hv hsm hck hw1 hr hbx
      go_wp2_with fail
      refine HV.out.mono ?_
      rintro e w5 ⟨a, s, g, m, rfl, hva, hem, hb5⟩
      have hb5r : Below wr.heap.size wr w5 := HW1.out.trans (hb5.mono HW1.out.size)
      have c0' := (hb5.cell (p := ⟨wr.heap.size, 0, none⟩) hltx).trans x0
      have c1' := (hb5.cell (p := ⟨wr.heap.size, 1, none⟩) hltx).trans x1
      have HB5 := Lib.hid hb5r
      have hgrow : wr.heap.size < w5.heap.size := Nat.lt_of_lt_of_le hltx hb5.size
      have hw6 := below1 w5 (.cells #[.int .i64 a, .string s, .bool g] 83)
      have HB6 := Lib.hid (hb5r.trans (hw6.mono hb5r.size))
      have HVA := Lib.hid hva
      have HEM := Lib.hid hem
      clear hb5 hva hem hw6 hb5r x0 x1
      cases m with
      | false =>
        have HSK := Lib.hid (HR.out.skip (by omega) HCK.out (show (lookV vs t).2 = false by unfold lookV; rw [HVA.out]; rfl) HB6.out)
        go_wp2
        go_roundw
        case rel => exact ⟨k + 1, by omega, by go_num, HSK.out⟩
        case measure => simp [intOf]; omega
      | true =>
        cases g with
        | true =>
          have HSK := Lib.hid (HR.out.skip (by omega) HCK.out (show (lookV vs t).2 = false by unfold lookV; rw [HVA.out]; rfl) HB6.out)
          go_wp2
          go_roundw
          case rel => exact ⟨k + 1, by omega, by go_num, HSK.out⟩
          case measure => simp [intOf]; omega
        | false =>
          have hlk : lookV vs t = (s, true) := by unfold lookV; rw [HVA.out]; rfl
          have hln : (allC (cs.take k) t).length ≤ k := Nat.le_trans (allC_len _ _) (by rw [List.length_take]; exact Nat.min_le_left _ _)
          have hown := row_below HR.out.1 HB6.out
          have hnw := alloc_snd w5 (.cells #[.int .i64 a, .string s, .bool false] 83) (.cells #[.string s1, .string s, .bool false] 34)
          go_wp2_with (at_builtin; refine wpList_append_own _ rfl (.tmp 28) (.tmp 34) 25 rfl w.heap.size 34 i0 _ 3 40 Try.underlying25 hi hz0 hz1 hz2 rfl (by decide) _ _ _ rfl (hown.alloc _) ⟨_, 0, none⟩ 1 1 [.string s1, .string s, .bool false] rfl rfl (World.news_of_block (fr := (0, 0)) hnw) (by simp [Value.oneCell']) (by unfold maxLen; omega) (by omega) (by have := HR.out.2.size; have := HB6.out.size; simp at *; omega) ?_; intro v3 w3 hown3 hg3 _)
          have hb3 := below_app (HR.out.2.trans (HB6.out.mono HR.out.2.size)) (Nat.le_refl _) hown hg3
          have HMO := Lib.hid (HR.out.more (by omega) HCK.out hlk hown3 hb3)
          go_roundw
          case rel => exact ⟨k + 1, by omega, by go_num, HMO.out⟩
          case measure => simp [intOf]; omega
    · have hkn : k = n := by omega
      subst hkn
      rw [← hcl] at hr
      obtain ⟨A', c', hv', hpost⟩ := hr.done
      injection hv' with hv'
      subst hv'
      have HP := Lib.hid hpost
      clear hr hpost
      go_wp2
      go_ret
      exact ⟨A', c', rfl, HP.out⟩

/-- A snapshot, and whether there is one. -/
def saOk (cs : List (ByteArray × List (Int × ByteArray × Bool))) (t : Int) : Bool := csB cs && inB t 0 100000
def saV (cs : List (ByteArray × List (Int × ByteArray × Bool))) (t : Int) : List (ByteArray × ByteArray × Bool) := if saOk cs t then allC cs t else []
def SnapPost (cs : List (ByteArray × List (Int × ByteArray × Bool))) (t : Int) (w : World) (e : Ending) (w' : World) : Prop :=
  ∃ A c, e = .returned (.tuple #[.slice A (saV cs t).length c, .bool (saOk cs t)]) ∧ OwnW w' w.heap.size w'.heap.size A c (saV cs t) ∧ Below w.heap.size w w'
theorem snap_no {cs : List (ByteArray × List (Int × ByteArray × Bool))} {t : Int} {w w' : World} (h : saOk cs t = false) (hb : Below w.heap.size w w') : SnapPost cs t w (.returned (.tuple #[.slice none 0 0, .bool false])) w' := by
  have e : saV cs t = [] := by unfold saV; rw [h]; rfl
  exact ⟨none, 0, by rw [h, e]; rfl, by rw [e]; exact .inl ⟨rfl, rfl, rfl⟩, hb⟩
theorem snap_yes {cs : List (ByteArray × List (Int × ByteArray × Bool))} {t : Int} {w w1 w' : World} {A : Option Addr} {c : Nat} (h : saOk cs t = true) (ho : OwnW w' w1.heap.size w'.heap.size A c (allC cs t)) (h1 : Below w.heap.size w w1) (hb : Below w.heap.size w w') : SnapPost cs t w (.returned (.tuple #[.slice A (allC cs t).length c, .bool true])) w' := by
  have e : saV cs t = allC cs t := by unfold saV; rw [h]; rfl
  exact ⟨A, c, by rw [h, e], by rw [e]; exact ho.wider h1.size (Nat.le_refl _), hb⟩

set_option maxRecDepth 100000 in
set_option maxHeartbeats 1000000 in
theorem specCellsAt_any (A : Option Addr) (n c : Nat) (hs : List (ByteArray × Option Addr × Nat × List (Int × ByteArray × Bool))) (t : Int) (B : Nat) (w : World) (hn : hs.length = n) (h : CellsB w B A hs) (hB : B ≤ w.heap.size) (hm : HSmall hs) :
    Calls Try.prog 40 #[.slice A n c, .int .i64 t] w (SnapPost (hs.map dat) t w) := by
  have HG := Lib.hid (l3Good_any A n c hs B w hn h hB hm)
  have HI := Lib.hid (fun W => l2True_any t W)
  have HC := Lib.hid (fun W (hW : Below w.heap.size w W) => l3All_any A n c hs t B W hn (h.below (hW.mono hB)) (Nat.le_trans hB hW.size) hm)
  have HNO := Lib.hid (fun W h => snap_no (cs := hs.map dat) (t := t) (w := w) (w' := W) h)
  have HYES := Lib.hid (fun W1 W A c h => snap_yes (cs := hs.map dat) (t := t) (w := w) (w1 := W1) (w' := W) (A := A) (c := c) h)
  clear hn h hm
  cases h1 : csB (hs.map dat) with
  | false =>
    rw [h1] at HG
    have HR := Lib.hid (fun W => HNO.out W (by simp [saOk, h1]))
    clear h1
    go_enter Try.func40, Try.ntmps40
    go_wp2_with fail
    refine HG.out.mono ?_
    rintro e w4 ⟨rfl, hb4⟩
    go_wp2
    exact bodyPost_ret (v := .tuple #[.slice none 0 0, .bool false]) (by simp [results, Try.results40, go_sem]) rfl (HR.out _ hb4)
  | true =>
    rw [h1] at HG
    have HG1 := Lib.hid h1
    clear h1
    cases h3 : inB t 0 100000 with
    | false =>
      rw [h3] at HI
      have HR := Lib.hid (fun W => HNO.out W (by simp [saOk, h3]))
      clear h3
      go_enter Try.func40, Try.ntmps40
      go_wp2_with fail
      refine HG.out.mono ?_
      rintro e w4 ⟨rfl, hb4⟩
      go_wp2_with fail
      refine (HI.out _).mono ?_
      rintro e w6 ⟨rfl, rfl⟩
      go_wp2
      exact bodyPost_ret (v := .tuple #[.slice none 0 0, .bool false]) (by simp [results, Try.results40, go_sem]) rfl (HR.out _ hb4)
    | true =>
      rw [h3] at HI
      have HR := Lib.hid (fun W1 W A c => HYES.out W1 W A c (by simp [saOk, HG1.out, h3]))
      clear h3
      go_enter Try.func40, Try.ntmps40
      go_wp2_with fail
      refine HG.out.mono ?_
      rintro e w4 ⟨rfl, hb4⟩
      have HB4 := Lib.hid hb4
      clear hb4
      go_wp2_with fail
      refine (HI.out _).mono ?_
      rintro e w6 ⟨rfl, rfl⟩
      go_wp2_with fail
      refine (HC.out _ HB4.out).mono ?_
      rintro e w6 ⟨A6, c6, rfl, ho6, hb6⟩
      have HF := Lib.hid (HR.out w4 w6 A6 c6 ho6 HB4.out (HB4.out.trans (hb6.mono HB4.out.size)))
      clear hb6 ho6
      go_wp2
      exact bodyPost_ret (v := .tuple #[.slice A6 (allC (hs.map dat) t).length c6, .bool true]) (by simp [results, Try.results40, go_sem]) rfl HF.out

set_option maxRecDepth 100000 in
set_option maxHeartbeats 2000000 in
theorem cellsAt_any (A : Option Addr) (n c : Nat) (hs : List (ByteArray × Option Addr × Nat × List (Int × ByteArray × Bool))) (t : Int) (B : Nat) (w : World) (hn : hs.length = n) (h : CellsB w B A hs) (hB : B ≤ w.heap.size) (hm : HSmall hs) :
    Calls Try.prog 37 #[.slice A n c, .int .i64 t] w (SnapPost (hs.map dat) t w) := by
  have HG := Lib.hid (goodCells_any A n c hs B w hn h hB hm)
  have HI := Lib.hid (fun W => isTrueTime_any t W)
  have HNO := Lib.hid (fun W h => snap_no (cs := hs.map dat) (t := t) (w := w) (w' := W) h)
  have HYES := Lib.hid (fun W1 W A c h => snap_yes (cs := hs.map dat) (t := t) (w := w) (w1 := W1) (w' := W) (A := A) (c := c) h)
  obtain ⟨i0, hi, hz0, hz1, hz2⟩ := info_parts infoWrite
  have HN := Lib.hid hn
  have hge := Nat.le_of_eq hn
  have hle := Nat.le_of_eq hn.symm
  have hnl : n ≤ 1048576 := by rw [← hn]; exact hm.1
  have HS := Lib.hid h
  clear h
  cases h1 : csB (hs.map dat) with
  | false =>
    rw [h1] at HG
    have HR := Lib.hid (fun W => HNO.out W (by simp [saOk, h1]))
    clear h1 hn
    go_enter Try.func37, Try.ntmps37
    go_wp2_with fail
    refine HG.out.mono ?_
    rintro e w4 ⟨rfl, hb4⟩
    go_wp2
    exact bodyPost_ret (v := .tuple #[.slice none 0 0, .bool false]) (by simp [results, Try.results37, go_sem]) rfl (HR.out _ hb4)
  | true =>
    rw [h1] at HG
    have HG1 := Lib.hid h1
    clear h1
    cases h3 : inB t 0 100000 with
    | false =>
      rw [h3] at HI
      have HR := Lib.hid (fun W => HNO.out W (by simp [saOk, h3]))
      clear h3 hn
      go_enter Try.func37, Try.ntmps37
      go_wp2_with fail
      refine HG.out.mono ?_
      rintro e w4 ⟨rfl, hb4⟩
      go_wp2_with fail
      refine (HI.out _).mono ?_
      rintro e w6 ⟨rfl, rfl⟩
      go_wp2
      exact bodyPost_ret (v := .tuple #[.slice none 0 0, .bool false]) (by simp [results, Try.results37, go_sem]) rfl (HR.out _ hb4)
    | true =>
      rw [h3] at HI
      have HR := Lib.hid (fun W1 W A c => HYES.out W1 W A c (by simp [saOk, HG1.out, h3]))
      obtain ⟨cs, hcs⟩ : ∃ cs, cs = hs.map dat := ⟨_, rfl⟩
      have HCS := Lib.hid hcs
      have hcl : cs.length = n := by rw [hcs, List.length_map, hn]
      rw [← hcs] at HR ⊢
      clear h3 hcs hn HNO HYES
      go_enter Try.func37, Try.ntmps37
      go_wp2_with fail
      refine HG.out.mono ?_
      rintro e w4 ⟨rfl, hb4⟩
      have HB4 := Lib.hid hb4
      clear hb4
      go_wp2_with fail
      refine (HI.out _).mono ?_
      rintro e w6 ⟨rfl, rfl⟩
      go_wp2
      go_loopw [6, 21] (fun v i wr => ∃ k : Nat, k ≤ n ∧ i = .int .i64 k ∧ AllRel cs t w4 k v wr) (fun _ i _ => n - (intOf i).toNat)
      case atStart => exact ⟨0, by omega, rfl, AllRel.start _ _ _⟩
      case round =>
        obtain ⟨k, hk, rfl, hr⟩ := hrel
        by_cases hlt : k < n
        · obtain ⟨b, off, rfl, hbB, hc⟩ := HS.out.get (by omega)
          obtain ⟨hc0, hc1⟩ := hc k (by omega)
          have hb := HB4.out.trans (hr.2.mono HB4.out.size)
          have c0 := (hb.cell (p := ⟨b, off + k * 2, none⟩) (Nat.lt_of_lt_of_le hbB hB)).trans hc0
          have c1 := (hb.cell (p := ⟨b, off + k * 2 + 1, none⟩) (Nat.lt_of_lt_of_le hbB hB)).trans hc1
          have hv := (HS.out.vers k (by omega)).below (hb.mono hB)
          have hup := (vsB_true ((csB_true HG1.out).2.2 k (by omega)).2).2.1
          have hpk := good_pos HG1.out k (by omega)
          have hck : cs[k]'(by omega) = dat (hs[k]'(by omega)) := by simp [HCS.out]
          obtain ⟨y, hy⟩ : ∃ y, y = hs[k]'(by omega) := ⟨_, rfl⟩
          rw [← hy] at c0 c1 hv hck hup hpk
          obtain ⟨s1, ad, cp, vs⟩ := y
          simp only [dat] at c0 c1 hv hck hup hpk
          have HCK := Lib.hid hck
          have hw1 := below1 wr (.cells #[.string s1, .slice ad vs.length cp] 81)
          have hbx := heap_alloc_new wr (.cells #[.string s1, .slice ad vs.length cp] 81)
          have hltx : wr.heap.size < (wr.alloc (.cells #[.string s1, .slice ad vs.length cp] 81)).heap.size := by simp
          have x0 := cell_blk (i := 0) hbx rfl
          have x1 := cell_blk (i := 1) hbx rfl
          have HV := Lib.hid (valueAt_any ad vs.length cp B vs t (wr.alloc (.cells #[.string s1, .slice ad vs.length cp] 81)) rfl hpk.2 (hv.below (hw1.mono (Nat.le_trans hB hb.size))) (Nat.le_trans hB (Nat.le_trans hb.size hw1.size)) hup)
          have HW1 := Lib.hid hw1
          have HRL := Lib.hid hr
          obtain ⟨s, hs'⟩ : ∃ s, s = (lookV vs t).1 := ⟨_, rfl⟩
          obtain ⟨g, hg'⟩ : ∃ g, g = (lookV vs t).2 := ⟨_, rfl⟩
          rw [← hs', ← hg'] at HV
          have HLK := Lib.hid (show lookV vs t = (s, g) by rw [hs', hg'])
          clear hc hc0 hc1 hy hb hv hck hw1 hr hbx hup hpk hs' hg'
          go_wp2_with fail
          refine HV.out.mono ?_
          rintro e w5 ⟨rfl, hb5⟩
          have hb5r : Below wr.heap.size wr w5 := HW1.out.trans (hb5.mono HW1.out.size)
          have c0' := (hb5.cell (p := ⟨wr.heap.size, 0, none⟩) hltx).trans x0
          have c1' := (hb5.cell (p := ⟨wr.heap.size, 1, none⟩) hltx).trans x1
          have HB5 := Lib.hid hb5r
          have hgrow : wr.heap.size < w5.heap.size := Nat.lt_of_lt_of_le hltx hb5.size
          clear hb5 hb5r x0 x1
          cases g with
          | false =>
            have HSK := Lib.hid (HRL.out.skip (by omega) HCK.out (show (lookV vs t).2 = false by rw [HLK.out]) HB5.out)
            go_wp2
            go_roundw
            case rel => exact ⟨k + 1, by omega, by go_num, HSK.out⟩
            case measure => simp [intOf]; omega
          | true =>
            have hln : (allC (cs.take k) t).length ≤ k := Nat.le_trans (allC_len _ _) (by rw [List.length_take]; exact Nat.min_le_left _ _)
            have hown := row_below HRL.out.1 HB5.out
            have hnw := heap_alloc_new w5 (.cells #[.string s1, .string s, .bool false] 34)
            go_wp2_with (at_builtin; refine wpList_append_own _ rfl (.tmp 33) (.tmp 38) 25 rfl w4.heap.size 34 i0 _ 3 40 Try.underlying25 hi hz0 hz1 hz2 rfl (by decide) _ _ _ rfl (hown.alloc _) ⟨_, 0, none⟩ 1 1 [.string s1, .string s, .bool false] rfl rfl (World.news_of_block (fr := (0, 0)) hnw) (by simp [Value.oneCell']) (by unfold maxLen; omega) (by omega) (by have := HRL.out.2.size; have := HB5.out.size; simp at *; omega) ?_; intro v3 w3 hown3 hg3 _)
            have hb3 := below_app (HRL.out.2.trans (HB5.out.mono HRL.out.2.size)) (Nat.le_refl _) hown hg3
            have HMO := Lib.hid (HRL.out.more (by omega) HCK.out HLK.out hown3 hb3)
            go_roundw
            case rel => exact ⟨k + 1, by omega, by go_num, HMO.out⟩
            case measure => simp [intOf]; omega
        · have hkn : k = n := by omega
          subst hkn
          rw [← hcl] at hr
          obtain ⟨A', c', hv', ho', hb'⟩ := hr.done
          injection hv' with hv'
          subst hv'
          have HF := Lib.hid (HR.out w4 wr A' c' ho' HB4.out (HB4.out.trans (hb'.mono HB4.out.size)))
          clear hr ho' hb'
          go_wp2
          exact bodyPost_ret (v := .tuple #[.slice A' (allC cs t).length c', .bool true]) (by simp [results, Try.results37, go_sem]) rfl HF.out
end Go.Proofs.Ytcefofgdbmnkdaa
