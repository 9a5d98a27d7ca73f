/-
  Contracts for the laws' helpers that copy polls: toVoter, toVoterS, toWon, toWonS, toPoll.
-/
import Derived.Test.YtojplmjoipjabaaPoMem
import Derived.Test.YtojplmjoipjabaaNtTo
namespace Go.Proofs.Ytojplmjoipjabaa.Po
open Go.RowKit Nt
set_option linter.unusedVariables false
set_option linter.unusedSimpArgs false

theorem toWon_any (a b : Int) (w : World) :
    Calls Try.prog 96 #[.agg #[.int .i64 a, .int .i64 b]] w fun e w' => e = .returned (.agg #[.int .i64 a, .int .i64 b]) ∧ Below w.heap.size w w' := by
  go_enter Try.func96, Try.ntmps96
  go_wp2
  exact bodyPost_ret (v := .agg #[.int .i64 a, .int .i64 b]) (by simp [results, Try.results96, go_sem]) rfl ⟨rfl, below3 _ _ _ _⟩

def ToNPost (ws : List (Int × Int)) (n : Nat) (w : World) (e : Ending) (w' : World) : Prop :=
  ∃ g, e = .returned (.slice (some ⟨g, 0, none⟩) n n) ∧ OwnN w' w.heap.size w'.heap.size (some ⟨g, 0, none⟩) n ws ∧ Below w.heap.size w w'
set_option maxRecDepth 100000 in
set_option maxHeartbeats 1000000 in
theorem toWonS_any (A : Option Addr) (n c : Nat) (ws : List (Int × Int)) (B : Nat) (w : World) (hn : ws.length = n) (h : WonB w B A ws) (hB : B ≤ w.heap.size) (hl : n ≤ 1048576) :
    Calls Try.prog 51 #[.slice A n c] w (ToNPost ws n w) := by
  obtain ⟨i0, hi, hz0, hz1, hz2⟩ := info_parts infoWon
  have HN := Lib.hid hn
  have hge := Nat.le_of_eq hn
  have hle := Nat.le_of_eq hn.symm
  have HS := Lib.hid h
  clear hn h
  go_enter Try.func51, Try.ntmps51
  go_wp2_with (at_make; refine wpList_make_full _ rfl (.tmp 6) (.tmp 6) 36 rfl w.heap.size 89 i0 _ 2 Try.underlying36 hi hz0 hz1 .i64 .i64 _ _ n rfl rfl rfl rfl (by rw [hz2]; omega) (by unfold maxLen; omega) (Nat.le_refl _) ?_; intro w1 hown hgr)
  have hb1 : Below w.heap.size w w1 := (Below.refl _ _).grown hgr (Nat.le_refl _) (by simp)
  have hf0 := fill_made (by omega) hown
  clear hown hgr
  go_loopw [4] (fun i wr => ∃ k : Nat, k ≤ n ∧ i = .int .i64 k ∧ Fill wr w.heap.size n 2 89 ((ws.take k).map wonCs) k ∧ Below w.heap.size w wr) (fun i _ => n - (intOf i).toNat)
  case atStart => exact ⟨0, by omega, rfl, by simpa using hf0, hb1⟩
  case round =>
    clear hf0 hb1
    obtain ⟨k, hk, rfl, hf, hb⟩ := hrel
    by_cases hlt : k < n
    · obtain ⟨b, off, rfl, hbB, hc⟩ := HS.out.get (by omega)
      obtain ⟨hc0, hc1⟩ := hc k (by omega)
      have c0 := (hb.cell (p := ⟨b, off + k * 2, none⟩) (Nat.lt_of_lt_of_le hbB hB)).trans hc0
      have c1 := (hb.cell (p := ⟨b, off + k * 2 + 1, none⟩) (Nat.lt_of_lt_of_le hbB hB)).trans hc1
      have HST := Lib.hid fun W (hW : Below wr.heap.size wr W) => Fill.snocN (hf.below hW) (by omega) hlt
      obtain ⟨y, hy⟩ : ∃ y, y = ws[k]'(by omega) := ⟨_, rfl⟩
      rw [← hy] at c0 c1 HST
      obtain ⟨s0, s1⟩ := y
      simp only at c0 c1 HST
      have HF := Lib.hid hf
      have HB := Lib.hid hb
      clear hc hc0 hc1 hy hf hb
      go_wp2_with fail
      refine (toWon_any _ _ _).mono ?_
      rintro e w4 ⟨rfl, hb4⟩
      have hf := HF.out.below hb4
      obtain ⟨v0, hv0⟩ := hf.cell (k * 2) (by omega)
      obtain ⟨v1, hv1⟩ := hf.cell (k * 2 + 1) (by omega)
      have hfr0 := hf.free (k * 2)
      have hfr1 := hf.free (k * 2 + 1)
      have HST4 := Lib.hid (HST.out w4 hb4)
      have HB4 := Lib.hid (HB.out.trans (hb4.mono HB.out.size))
      clear hf hb4 c0 c1
      go_wp2
      go_roundw
      case rel => exact ⟨k + 1, by omega, by go_num, HST4.out, (HB4.out.setCell (p := ⟨w.heap.size, k * 2, none⟩) (Nat.le_refl _) _).setCell (p := ⟨w.heap.size, k * 2 + 1, none⟩) (Nat.le_refl _) _⟩
      case measure => simp [intOf]; omega
    · have hkn : k = n := by omega
      subst hkn
      rw [List.take_of_length_le (by omega)] at hf
      go_wp2
      go_ret
      exact ⟨w.heap.size, rfl, Fill.own (by rw [show (ws.map wonCs).length = k by simp; exact HN.out]; exact hf) (by simp; exact HN.out) (by unfold maxLen; omega) (Nat.le_refl _) hf.lt, hb⟩

/-- What toVoter hands back. -/
def ToVPost1 (x : Bool × Int × Int × Bool) (is : List Int) (w : World) (e : Ending) (w' : World) : Prop :=
  ∃ A c, e = .returned (.agg #[.bool x.1, .int .i64 x.2.1, .int .i64 x.2.2.1, .slice A is.length c, .bool x.2.2.2]) ∧ OwnI w' w.heap.size w'.heap.size A c is ∧ Below w.heap.size w w'
/-- Five stores into a block below. -/
theorem own_put5 {w : World} {lo hi cap g : Nat} {A : Option Addr} {is : List Int} {a b c d f : Value} (h : OwnI w lo hi A cap is) (hg : g < lo) : OwnI (((((w.setCell ⟨g, 0, none⟩ a).setCell ⟨g, 1, none⟩ b).setCell ⟨g, 2, none⟩ c).setCell ⟨g, 3, none⟩ d).setCell ⟨g, 4, none⟩ f) lo hi A cap is :=
  (OwnI.put4 h hg).low (p := ⟨g, 4, none⟩) hg f
theorem bel_put5 {w w' : World} {B g : Nat} {a b c d f : Value} (h : Below B w w') (hg : B ≤ g) : Below B w (((((w'.setCell ⟨g, 0, none⟩ a).setCell ⟨g, 1, none⟩ b).setCell ⟨g, 2, none⟩ c).setCell ⟨g, 3, none⟩ d).setCell ⟨g, 4, none⟩ f) :=
  (bel_put4 h hg).setCell (p := ⟨g, 4, none⟩) hg f
set_option maxHeartbeats 2000000 in
theorem toVoter_any (x : Bool × Int × Int × Bool) (A : Option Addr) (n c : Nat) (is : List Int) (B : Nat) (w : World) (hn : is.length = n) (h : IntsB w B A is) (hB : B ≤ w.heap.size) (hl : n ≤ 1048576) :
    Calls Try.prog 94 #[.agg #[.bool x.1, .int .i64 x.2.1, .int .i64 x.2.2.1, .slice A n c, .bool x.2.2.2]] w (ToVPost1 x is w) := by
  have HI := Lib.hid (fun W (hW : Below w.heap.size w W) => toIntS_any A n c is B W hn (h.below (hW.mono hB)) (Nat.le_trans hB hW.size) hl)
  have HN := Lib.hid hn
  obtain ⟨x0, x1, x2, x3⟩ := x
  unfold ToVPost1
  rw [hn]
  simp only
  clear h hn hB hl
  go_enter Try.func94, Try.ntmps94
  go_wp2_with fail
  have hb0 := below3 w (.cells #[.bool x0, .int .i64 x1, .int .i64 x2, .slice A n c, .bool x3] 103) (.cells #[.bool false, .int .i64 0, .int .i64 0, .slice none 0 0, .bool false] 81) (.cells #[.bool x0, .int .i64 x1, .int .i64 x2, .slice none 0 0, .bool false] 81)
  refine (HI.out _ hb0).mono ?_
  rintro e w1 ⟨g1, rfl, ho1, hb1⟩
  have HB1 := Lib.hid (hb0.trans (hb1.mono hb0.size))
  obtain ⟨hc, hf⟩ := bcell hb1
  have hz := hb1.size
  simp only [World.size_alloc] at hz hc hf
  have hz0 : w.heap.size < w1.heap.size := by omega
  have hz1 : w.heap.size + 1 < w1.heap.size := by omega
  have hz2 : w.heap.size + 1 + 1 < w1.heap.size := by omega
  have HO1 := Lib.hid ho1
  clear hb0 hb1 ho1
  go_wp2
  exact bodyPost_ret (v := .agg #[.bool x0, .int .i64 x1, .int .i64 x2, .slice (some ⟨g1, 0, none⟩) n n, .bool x3]) (by simp [results, Try.results94, go_sem, hc, hf, hz1]) rfl ⟨_, _, rfl,
    (own_put5 ((HO1.out.low (p := ⟨w.heap.size + 1 + 1, 3, none⟩) (by simp) _).low (p := ⟨w.heap.size + 1 + 1, 4, none⟩) (by simp) _) (by simp)).wider (by simp; omega) (by simp [World.setCell]),
    bel_put5 ((HB1.out.setCell (p := ⟨w.heap.size + 1 + 1, 3, none⟩) (show w.heap.size ≤ w.heap.size + 1 + 1 by omega) _).setCell (p := ⟨w.heap.size + 1 + 1, 4, none⟩) (show w.heap.size ≤ w.heap.size + 1 + 1 by omega) _) (by omega)⟩

/-- What toVoterS hands back: voters of the same data, in blocks of their own. -/
def ToVPost (hs : List ((Bool × Int × Int × Bool) × Option Addr × Nat × List Int)) (n : Nat) (w : World) (e : Ending) (w' : World) : Prop :=
  ∃ (g : Nat) (gs : List ((Bool × Int × Int × Bool) × Option Addr × Nat × List Int)), e = .returned (.slice (some ⟨g, 0, none⟩) n n) ∧ gs.map vdat = hs.map vdat ∧ OwnV w' w.heap.size w'.heap.size (some ⟨g, 0, none⟩) n gs ∧ Below w.heap.size w w'

set_option maxRecDepth 100000 in
set_option maxHeartbeats 1000000 in
theorem toVoterS_any (A : Option Addr) (n c : Nat) (hs : List ((Bool × Int × Int × Bool) × Option Addr × Nat × List Int)) (B : Nat) (w : World) (hn : hs.length = n) (h : VotB w B A hs) (hB : B ≤ w.heap.size) (hm : VtSmall hs) :
    Calls Try.prog 49 #[.slice A n c] w (ToVPost hs n w) := by
  obtain ⟨i0, hi, hz0, hz1, hz2⟩ := info_parts infoVot
  obtain ⟨hl, hms⟩ := hm
  have HN := Lib.hid hn
  have hge := Nat.le_of_eq hn
  have hle := Nat.le_of_eq hn.symm
  have hnl : n ≤ 1048576 := by omega
  have HS := Lib.hid h
  have HM := Lib.hid hms
  clear hn h hms hl
  go_enter Try.func49, Try.ntmps49
  go_wp2_with (at_make; refine wpList_make_full _ rfl (.tmp 6) (.tmp 6) 32 rfl w.heap.size 81 i0 _ 5 Try.underlying32 hi hz0 hz1 .i64 .i64 _ _ n rfl rfl rfl rfl (by rw [hz2]; omega) (by unfold maxLen; omega) (Nat.le_refl _) ?_; intro w1 hown hgr)
  have hb1 : Below w.heap.size w w1 := (Below.refl _ _).grown hgr (Nat.le_refl _) (by simp)
  have hf0 := fill_made (by omega) hown
  clear hown hgr
  go_loopw [4] (fun i wr => ∃ (k : Nat) (gs : List ((Bool × Int × Int × Bool) × Option Addr × Nat × List Int)), k ≤ n ∧ i = .int .i64 k ∧ Hid (gs.length = k) ∧ Hid (gs.map vdat = (hs.map vdat).take k) ∧ Fill wr w.heap.size n 5 81 (gs.map vtCs) k ∧ YesOwn wr (w.heap.size + 1) wr.heap.size gs ∧ Below w.heap.size w wr) (fun i _ => n - (intOf i).toNat)
  case atStart => exact ⟨0, [], by omega, rfl, rfl, by simp [Hid], by simpa using hf0, YesOwn.nil, hb1⟩
  case round =>
    clear hf0 hb1
    obtain ⟨k, gs, hk, rfl, HGL, HGD, hf, hv, hb⟩ := hrel
    by_cases hlt : k < n
    · obtain ⟨b, off, rfl, hbB, hc⟩ := HS.out.get (by omega)
      obtain ⟨hc0, hc1, hc2, hc3, hc4⟩ := hc k (by omega)
      have c0 := (hb.cell (p := ⟨b, off + k * 5, none⟩) (Nat.lt_of_lt_of_le hbB hB)).trans hc0
      have c1 := (hb.cell (p := ⟨b, off + k * 5 + 1, none⟩) (Nat.lt_of_lt_of_le hbB hB)).trans hc1
      have c2 := (hb.cell (p := ⟨b, off + k * 5 + 2, none⟩) (Nat.lt_of_lt_of_le hbB hB)).trans hc2
      have c3 := (hb.cell (p := ⟨b, off + k * 5 + 3, none⟩) (Nat.lt_of_lt_of_le hbB hB)).trans hc3
      have c4 := (hb.cell (p := ⟨b, off + k * 5 + 4, none⟩) (Nat.lt_of_lt_of_le hbB hB)).trans hc4
      have HV := Lib.hid ((HS.out.yes k (by omega)).below (hb.mono hB))
      have HD1 := Lib.hid (fun a c => vtake_dats HGD.out (show k < hs.length by omega) a c)
      have hsm := HM.out _ (List.getElem_mem (show k < hs.length by omega))
      obtain ⟨y, hy⟩ : ∃ y, y = hs[k]'(by omega) := ⟨_, rfl⟩
      rw [← hy] at c0 c1 c2 c3 c4 HV HD1 hsm
      obtain ⟨⟨x0, x1, x2, x3⟩, ad, cp, vs⟩ := y
      simp only at c0 c1 c2 c3 c4 HV HD1 hsm
      have HC := Lib.hid (toVoter_any (x0, x1, x2, x3) ad vs.length cp vs B wr rfl HV.out (Nat.le_trans hB hb.size) hsm)
      have HF := Lib.hid hf
      have HB := Lib.hid hb
      have HVO := Lib.hid hv
      have hgw := hf.lt
      clear hc hc0 hc1 hc2 hc3 hc4 hy hf hb hv hsm
      go_wp2_with fail
      refine HC.out.mono ?_
      rintro e w4 ⟨A4, c4', rfl, ho4, hb4⟩
      have hf := HF.out.below hb4
      have HST := Lib.hid (Fill.snocVt hf HGL.out hlt (x0, x1, x2, x3) A4 c4' vs)
      obtain ⟨v0, hv0⟩ := hf.cell (k * 5) (by omega)
      obtain ⟨v1, hv1⟩ := hf.cell (k * 5 + 1) (by omega)
      obtain ⟨v2, hv2⟩ := hf.cell (k * 5 + 2) (by omega)
      obtain ⟨v3, hv3⟩ := hf.cell (k * 5 + 3) (by omega)
      obtain ⟨v4, hv4⟩ := hf.cell (k * 5 + 4) (by omega)
      have hfr0 := hf.free (k * 5)
      have hfr1 := hf.free (k * 5 + 1)
      have hfr2 := hf.free (k * 5 + 2)
      have hfr3 := hf.free (k * 5 + 3)
      have hfr4 := hf.free (k * 5 + 4)
      have HB4 := Lib.hid (HB.out.trans (hb4.mono HB.out.size))
      have HVN := Lib.hid ((HVO.out.below hb4).snoc ((x0, x1, x2, x3), A4, c4', vs) ho4 (by omega) hb4.size)
      clear hf hb4 c0 c1 c2 c3 c4 ho4
      go_wp2
      go_roundw
      case rel =>
        refine ⟨k + 1, gs ++ [((x0, x1, x2, x3), A4, c4', vs)], by omega, by go_num, ?_, HD1.out _ _, HST.out, ?_, ((((HB4.out.setCell (p := ⟨w.heap.size, k * 5, none⟩) (Nat.le_refl _) _).setCell (p := ⟨w.heap.size, k * 5 + 1, none⟩) (Nat.le_refl _) _).setCell (p := ⟨w.heap.size, k * 5 + 2, none⟩) (Nat.le_refl _) _).setCell (p := ⟨w.heap.size, k * 5 + 3, none⟩) (Nat.le_refl _) _).setCell (p := ⟨w.heap.size, k * 5 + 4, none⟩) (Nat.le_refl _) _⟩
        · show _ = _
          rw [List.length_append, HGL.out]; rfl
        · have := ((((HVN.out.low (p := ⟨w.heap.size, k * 5, none⟩) (Nat.lt_succ_self _) (.bool x0)).low (p := ⟨w.heap.size, k * 5 + 1, none⟩) (Nat.lt_succ_self _) (.int .i64 x1)).low (p := ⟨w.heap.size, k * 5 + 2, none⟩) (Nat.lt_succ_self _) (.int .i64 x2)).low (p := ⟨w.heap.size, k * 5 + 3, none⟩) (Nat.lt_succ_self _) (.slice A4 vs.length c4')).low (p := ⟨w.heap.size, k * 5 + 4, none⟩) (Nat.lt_succ_self _) (.bool x3)
          simpa [World.setCell] using this
      case measure => simp [intOf]; omega
    · have hkn : k = n := by omega
      subst hkn
      have hd := HGD.out
      rw [List.take_of_length_le (by simp; omega)] at hd
      have HD2 := Lib.hid hd
      clear hd
      go_wp2
      go_ret
      exact ⟨w.heap.size, gs, rfl, HD2.out, ⟨Fill.own (by rw [List.length_map, HGL.out]; exact hf) (by rw [List.length_map]; exact HGL.out) (by unfold maxLen; omega) (Nat.le_refl _) hf.lt, hv.wider (by omega) (Nat.le_refl _)⟩, hb⟩
end Go.Proofs.Ytojplmjoipjabaa.Po
