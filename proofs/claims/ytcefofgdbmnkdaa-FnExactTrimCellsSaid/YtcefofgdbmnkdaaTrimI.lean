/-
  Contracts for TrimCells of the model and of the program.
-/
import Derived.Test.YtcefofgdbmnkdaaTrimS
import Derived.Test.YtcefofgdbmnkdaaCopy
import Derived.Deep.RegionHeld3
import Derived.Deep.DrawnRows
namespace Go.Proofs.Ytcefofgdbmnkdaa
open Go.RowKit CM
set_option linter.unusedVariables false

/-- What trimming hands back. -/
def trV (cs : List (ByteArray × List (Int × ByteArray × Bool))) (f : Int) : List (ByteArray × List (Int × ByteArray × Bool)) := if saOk cs f then trimC f cs else []
def TrimCPost (cs : List (ByteArray × List (Int × ByteArray × Bool))) (f : Int) (w : World) (e : Ending) (w' : World) : Prop :=
  ∃ A c gs, e = .returned (.tuple #[.slice A gs.length c, .bool (saOk cs f)]) ∧ gs.map dat = trV cs f ∧ OwnC w' w.heap.size w'.heap.size A c gs ∧ Below w.heap.size w w'
theorem tr_no {cs : List (ByteArray × List (Int × ByteArray × Bool))} {f : Int} {w w' : World} (h : saOk cs f = false) (hb : Below w.heap.size w w') : TrimCPost cs f w (.returned (.tuple #[.slice none 0 0, .bool false])) w' := by
  have e : trV cs f = [] := by unfold trV; rw [h]; rfl
  exact ⟨none, 0, [], by rw [h]; rfl, by rw [e]; rfl, ⟨.inl ⟨rfl, rfl, rfl⟩, VerOwn.nil⟩, hb⟩
theorem tr_yes {cs : List (ByteArray × List (Int × ByteArray × Bool))} {f : Int} {w w1 w' : World} {A : Option Addr} {c : Nat} {gs : List (ByteArray × Option Addr × Nat × List (Int × ByteArray × Bool))} (h : saOk cs f = true) (hg : gs.map dat = trimC f cs) (ho : OwnC w' w1.heap.size w'.heap.size A c gs) (h1 : Below w.heap.size w w1) (hb : Below w.heap.size w w') : TrimCPost cs f w (.returned (.tuple #[.slice A gs.length c, .bool true])) w' := by
  have e : trV cs f = trimC f cs := by unfold trV; rw [h]; rfl
  exact ⟨A, c, gs, by rw [h], by rw [e]; exact hg, ho.wider h1.size (Nat.le_refl _), hb⟩

set_option maxRecDepth 100000 in
set_option maxHeartbeats 1000000 in
theorem specTrimCells_any (A : Option Addr) (n c : Nat) (hs : List (ByteArray × Option Addr × Nat × List (Int × ByteArray × Bool))) (f : Int) (B : Nat) (w : World) (hn : hs.length = n) (h : CellsB w B A hs) (hB : B ≤ w.heap.size) (hm : HSmall hs) :
    Calls Try.prog 36 #[.slice A n c, .int .i64 f] w (TrimCPost (hs.map dat) f w) := by
  have HG := Lib.hid (l3Good_any A n c hs B w hn h hB hm)
  have HI := Lib.hid (fun W => l2True_any f W)
  have HC := Lib.hid (fun W (hW : Below w.heap.size w W) => l3Trim_any A n c hs f B W hn (h.below (hW.mono hB)) (Nat.le_trans hB hW.size) hm)
  have HNO := Lib.hid (fun W h => tr_no (cs := hs.map dat) (f := f) (w := w) (w' := W) h)
  have HYES := Lib.hid (fun W1 W A c gs h => tr_yes (cs := hs.map dat) (f := f) (w := w) (w1 := W1) (w' := W) (A := A) (c := c) (gs := gs) h)
  clear hn h hm
  cases h1 : csB (hs.map dat) with
  | false =>
    rw [h1] at HG
    have HR := Lib.hid (fun W => HNO.out W (by simp [saOk, h1]))
    clear h1
    go_enter Try.func36, Try.ntmps36
    go_wp2_with fail
    refine HG.out.mono ?_
    rintro e w4 ⟨rfl, hb4⟩
    go_wp2
    exact bodyPost_ret (v := .tuple #[.slice none 0 0, .bool false]) (by simp [results, Try.results36, go_sem]) rfl (HR.out _ hb4)
  | true =>
    rw [h1] at HG
    have HG1 := Lib.hid h1
    clear h1
    cases h3 : inB f 0 100000 with
    | false =>
      rw [h3] at HI
      have HR := Lib.hid (fun W => HNO.out W (by simp [saOk, h3]))
      clear h3
      go_enter Try.func36, Try.ntmps36
      go_wp2_with fail
      refine HG.out.mono ?_
      rintro e w4 ⟨rfl, hb4⟩
      go_wp2_with fail
      refine (HI.out _).mono ?_
      rintro e w6 ⟨rfl, rfl⟩
      go_wp2
      exact bodyPost_ret (v := .tuple #[.slice none 0 0, .bool false]) (by simp [results, Try.results36, go_sem]) rfl (HR.out _ hb4)
    | true =>
      rw [h3] at HI
      have HR := Lib.hid (fun W1 W A c gs => HYES.out W1 W A c gs (by simp [saOk, HG1.out, h3]))
      clear h3
      go_enter Try.func36, Try.ntmps36
      go_wp2_with fail
      refine HG.out.mono ?_
      rintro e w4 ⟨rfl, hb4⟩
      have HB4 := Lib.hid hb4
      clear hb4
      go_wp2_with fail
      refine (HI.out _).mono ?_
      rintro e w6 ⟨rfl, rfl⟩
      go_wp2_with fail
      refine (HC.out _ HB4.out).mono ?_
      rintro e w6 ⟨A6, c6, gs6, rfl, hd6, ho6, hb6⟩
      have HF := Lib.hid (HR.out w4 w6 A6 c6 gs6 hd6 ho6 HB4.out (HB4.out.trans (hb6.mono HB4.out.size)))
      clear hb6 ho6
      go_wp2
      exact bodyPost_ret (v := .tuple #[.slice A6 gs6.length c6, .bool true]) (by simp [results, Try.results36, go_sem]) rfl HF.out

attribute [local go_sem ↓] Go.wp_at_zero Go.wp_at_succ
set_option maxRecDepth 100000 in
set_option maxHeartbeats 2000000 in
theorem trimCells_any (A : Option Addr) (n c : Nat) (hs : List (ByteArray × Option Addr × Nat × List (Int × ByteArray × Bool))) (f : Int) (B : Nat) (w : World) (hn : hs.length = n) (h : CellsB w B A hs) (hcap : ∀ x ∈ hs, x.2.2.2.length ≤ x.2.2.1) (hB : B ≤ w.heap.size) (hm : HSmall hs) :
    Calls Try.prog 35 #[.slice A n c, .int .i64 f] w (TrimCPost (hs.map dat) f w) := by
  have HG := Lib.hid (goodCells_any A n c hs B w hn h hB hm)
  have HI := Lib.hid (fun W => isTrueTime_any f W)
  have HNO := Lib.hid (fun W h => tr_no (cs := hs.map dat) (f := f) (w := w) (w' := W) h)
  have HYES := Lib.hid (fun W1 W A c gs h => tr_yes (cs := hs.map dat) (f := f) (w := w) (w1 := W1) (w' := W) (A := A) (c := c) (gs := gs) h)
  obtain ⟨i0, hi, hz0, hz1, hz2⟩ := info_parts infoCell
  have HN := Lib.hid hn
  have hge := Nat.le_of_eq hn
  have hle := Nat.le_of_eq hn.symm
  have hnl : n ≤ 1048576 := by rw [← hn]; exact hm.1
  have HS := Lib.hid h
  have HCAP := Lib.hid hcap
  clear h hcap
  cases h1 : csB (hs.map dat) with
  | false =>
    rw [h1] at HG
    have HR := Lib.hid (fun W => HNO.out W (by simp [saOk, h1]))
    clear h1 hn
    go_enter Try.func35, Try.ntmps35
    go_wp2_with fail
    refine HG.out.mono ?_
    rintro e w4 ⟨rfl, hb4⟩
    go_wp2
    exact bodyPost_ret (v := .tuple #[.slice none 0 0, .bool false]) (by simp [results, Try.results35, go_sem]) rfl (HR.out _ hb4)
  | true =>
    rw [h1] at HG
    have HG1 := Lib.hid h1
    clear h1
    cases h3 : inB f 0 100000 with
    | false =>
      rw [h3] at HI
      have HR := Lib.hid (fun W => HNO.out W (by simp [saOk, h3]))
      clear h3 hn
      go_enter Try.func35, Try.ntmps35
      go_wp2_with fail
      refine HG.out.mono ?_
      rintro e w4 ⟨rfl, hb4⟩
      go_wp2_with fail
      refine (HI.out _).mono ?_
      rintro e w6 ⟨rfl, rfl⟩
      go_wp2
      exact bodyPost_ret (v := .tuple #[.slice none 0 0, .bool false]) (by simp [results, Try.results35, go_sem]) rfl (HR.out _ hb4)
    | true =>
      rw [h3] at HI
      have HR := Lib.hid (fun W1 W A c gs => HYES.out W1 W A c gs (by simp [saOk, HG1.out, h3]))
      obtain ⟨cs, hcs⟩ : ∃ cs, cs = hs.map dat := ⟨_, rfl⟩
      have HCS := Lib.hid hcs
      have hcl : cs.length = n := by rw [hcs, List.length_map, hn]
      rw [← hcs] at HR ⊢
      clear h3 hcs hn HNO HYES
      go_enter Try.func35, Try.ntmps35
      go_wp2_with fail
      refine HG.out.mono ?_
      rintro e w4 ⟨rfl, hb4⟩
      have HB4 := Lib.hid hb4
      clear hb4
      go_wp2_with fail
      refine (HI.out _).mono ?_
      rintro e w6 ⟨rfl, rfl⟩
      go_wp2
      go_loopw [6, 20] (fun v i wr => ∃ k : Nat, k ≤ n ∧ i = .int .i64 k ∧ TrimRel cs f w4 k v wr) (fun _ i _ => n - (intOf i).toNat)
      case atStart => exact ⟨0, by omega, rfl, TrimRel.start _ _ _⟩
      case round =>
        obtain ⟨k, hk, rfl, hr⟩ := hrel
        by_cases hlt : k < n
        · obtain ⟨gs, hgd, hrc, hb⟩ := hr
          obtain ⟨b, off, rfl, hbB, hc⟩ := HS.out.get (by omega)
          obtain ⟨hc0, hc1⟩ := hc k (by omega)
          have hbw := HB4.out.trans (hb.mono HB4.out.size)
          have c0 := (hbw.cell (p := ⟨b, off + k * 2, none⟩) (Nat.lt_of_lt_of_le hbB hB)).trans hc0
          have c1 := (hbw.cell (p := ⟨b, off + k * 2 + 1, none⟩) (Nat.lt_of_lt_of_le hbB hB)).trans hc1
          have hv := (HS.out.vers k (by omega)).below (hbw.mono hB)
          have hup := (vsB_true ((csB_true HG1.out).2.2 k (by omega)).2).2.1
          have hpk := good_pos HG1.out k (by omega)
          have hcp := HCAP.out _ (List.getElem_mem (show k < hs.length by omega))
          have hck : cs[k]'(by omega) = dat (hs[k]'(by omega)) := by simp [HCS.out]
          obtain ⟨y, hy⟩ : ∃ y, y = hs[k]'(by omega) := ⟨_, rfl⟩
          rw [← hy] at c0 c1 hv hck hup hpk hcp
          obtain ⟨s1, ad, cp, vs⟩ := y
          simp only [dat] at c0 c1 hv hck hup hpk hcp
          have HCK := Lib.hid hck
          have hw1 := below1 wr (.cells #[.string s1, .slice ad vs.length cp] 81)
          have hbx := heap_alloc_new wr (.cells #[.string s1, .slice ad vs.length cp] 81)
          have hltx : wr.heap.size < (wr.alloc (.cells #[.string s1, .slice ad vs.length cp] 81)).heap.size := by simp
          have x0 := cell_blk (i := 0) hbx rfl
          have x1 := cell_blk (i := 1) hbx rfl
          obtain ⟨fb, fo, rfl, hfB, _⟩ := hv.get (by omega)
          have HV := Lib.hid (needed_any fb fo vs.length cp B vs f (wr.alloc (.cells #[.string s1, .slice (some ⟨fb, fo, none⟩) vs.length cp] 81)) rfl hpk.2 hcp (hv.below (hw1.mono (Nat.le_trans hB hbw.size))) (Nat.le_trans hB (Nat.le_trans hbw.size hw1.size)) hup)
          have htl : Hid ((trimV f vs).length ≤ vs.length) := trimV_len f vs hup
          have HVL := Lib.hid hpk.2
          have HW1 := Lib.hid hw1
          have HRC := Lib.hid hrc
          have HGD := Lib.hid hgd
          have HB := Lib.hid hb
          have HBW := Lib.hid hbw
          clear hc hc0 hc1 hy hb hbw hv hck hw1 hbx hup hpk hcp hrc hgd
          go_wp2_with fail
          refine HV.out.mono ?_
          rintro e w5 ⟨A5, c5, rfl, hv5, hb5⟩
          have hb5r : Below wr.heap.size wr w5 := HW1.out.trans (hb5.mono HW1.out.size)
          have c0' := (hb5.cell (p := ⟨wr.heap.size, 0, none⟩) hltx).trans x0
          have c1' := (hb5.cell (p := ⟨wr.heap.size, 1, none⟩) hltx).trans x1
          have HB5 := Lib.hid hb5r
          have hgrow : wr.heap.size < w5.heap.size := Nat.lt_of_lt_of_le hltx hb5.size
          clear hb5 hb5r x0 x1
          by_cases hz : 0 < (trimV f vs).length
          · obtain ⟨b5, o5, rfl, hb5B, _⟩ := hv5.get hz
            have hBW5 : B ≤ w5.heap.size := Nat.le_trans hB (Nat.le_trans HBW.out.size HB5.out.size)
            have HCV := Lib.hid (fun W (hW : Below w5.heap.size w5 W) => copyVers_any b5 o5 (trimV f vs).length c5 (trimV f vs) B W rfl (hv5.below (hW.mono hBW5)) (Nat.le_trans hBW5 hW.size) (Nat.le_trans htl.out HVL.out))
            have hgl : gs.length ≤ k := by
              have e := congrArg List.length HGD.out
              rw [List.length_map] at e
              have := trimC_len f (cs.take k)
              rw [List.length_take] at this
              omega
            have hrow := HRC.out.1
            have hne7 : some wr.heap.size ≠ u6.ownBlock := fun e => by have := (hrow.lt _ e.symm).2; omega
            clear hv5
            go_wp2_with fail
            go_region_held3 (fun w' => w'.cell? ⟨wr.heap.size, 0, none⟩ = some (.string s1))
              (first | go_keep | exact (hgrow7.cell_far ⟨wr.heap.size, 0, none⟩ (by simp; omega) hne7).trans (((below1 w6 _).cell (p := ⟨wr.heap.size, 0, none⟩) hlt6).trans hc6) | exact (hb6.cell (p := ⟨wr.heap.size, 0, none⟩) hgrow).trans c0' | (simp; exact (hb6.cell (p := ⟨wr.heap.size, 0, none⟩) hgrow).trans c0') | skip)
              (first
                | ((go_at_call 81; refine (HCV.out _ ((Below.refl _ _).drew)).mono ?_; rintro e w6 ⟨g6, rfl, hg6, ho6, hb6⟩; clear hg6; have hb56 : Below w5.heap.size w5 w6 := Below.trans (b := w5.drew) ((Below.refl _ _).drew) hb6; have hbr6 := HB5.out.trans (hb56.mono HB5.out.size); have hown := row_below hrow hbr6; have hc6 : w6.cell? ⟨wr.heap.size, 0, none⟩ = some (.string s1) := (hb56.cell (p := ⟨wr.heap.size, 0, none⟩) hgrow).trans c0'; have hlt6 : wr.heap.size < w6.heap.size := Nat.lt_of_lt_of_le hgrow hb56.size))
                | ((refine step_append_lies _ (by rfl) _ _ _ (by rfl) w4.heap.size 81 i0 _ 2 40 Try.underlying24 hi hz0 hz1 hz2 rfl (by decide) u6 gs.length (gs.map cellCs).flatten (by rfl) (hown.alloc _) ⟨w6.heap.size, 0, none⟩ 1 1 [.string s1, .slice (some ⟨g6, 0, none⟩) (trimV f vs).length (trimV f vs).length] (by rfl) (by rfl) (World.news_of_block (cs := #[.string s1, .slice (some ⟨g6, 0, none⟩) (trimV f vs).length (trimV f vs).length]) (t := 81) (fr := (0, 0)) (heap_alloc_new w6 _)) (by simp [Value.oneCell']) (by omega) (by unfold maxLen; omega) (by omega) (by have := HB.out.size; have := hbr6.size; simp; omega) (w6.heap.size + 1) (by simp) ?_; intro gg cap w7 hown7 hgrow7 hat hlt7)))
            have HMO := Lib.hid (TrimRel.more HGD.out HRC.out HB.out (show k < cs.length by omega) HCK.out hz hbr6 ((show Own w6 w5.heap.size w6.heap.size 83 3 (some ⟨g6, 0, none⟩) (trimV f vs).length ((trimV f vs).map verCs) from ho6).wider HB5.out.size (Nat.le_refl _)) hgrow7 hown7)
            go_wp2
            go_roundw
            case rel => exact ⟨k + 1, by omega, by go_num, HMO.out⟩
            case measure => simp [intOf]; omega
          · have HTR := Lib.hid (show TrimRel cs f w4 k u6 wr from ⟨gs, HGD.out, HRC.out, HB.out⟩)
            have HSK := Lib.hid (HTR.out.skip (show k < cs.length by omega) HCK.out (by omega) HB5.out)
            go_wp2
            go_roundw
            case rel => exact ⟨k + 1, by omega, by go_num, HSK.out⟩
            case measure => simp [intOf]; omega
        · have hkn : k = n := by omega
          subst hkn
          rw [← hcl] at hr
          obtain ⟨A', c', gs, hv', hgd', ho', hb'⟩ := hr.done
          injection hv' with hv'
          subst hv'
          have HF := Lib.hid (HR.out w4 wr A' c' gs hgd' ho' HB4.out (HB4.out.trans (hb'.mono HB4.out.size)))
          clear hr ho' hb'
          go_wp2
          exact bodyPost_ret (v := .tuple #[.slice A' gs.length c', .bool true]) (by simp [results, Try.results35, go_sem]) rfl HF.out
end Go.Proofs.Ytcefofgdbmnkdaa
