/-
  The model's copy of a log: l9OwnLog. An element appended to a row whose elements own memory.
-/
import Derived.Test.YtnmhigbnlpcedaaGrCl
import Derived.Deep.RegionHeld3
import Derived.Deep.Cut
namespace Go.Proofs.Ytnmhigbnlpcedaa.Gr
open Go.RowKit CM
set_option linter.unusedVariables false
set_option linter.unusedSimpArgs false

/-- An element appended to a row of the call's own. -/
theorem kd_app {α : Type} {K : Kd α} {W w' : World} {lo m k c : Nat} {A : Option Addr} {gs : List α} {v' : Value} {x : α} (hgs : OwnK K W lo m A c gs) (hm : m ≤ W.heap.size) (hlo : lo ≤ m) (hx : K.ow W x) (hx1 : m ≤ K.lo x) (hx2 : K.hi x ≤ W.heap.size) (hk : gs.length = k) (hsz : 0 < K.sz)
    (hown : w'.ownsRow lo K.t K.sz v' (k + 1) ((gs.map K.cs).flatten ++ K.cs x)) (hgr : W.grownBy w' (Value.slice A k c).ownBlock) (hat : v'.ownBlock = (Value.slice A k c).ownBlock ∨ v'.ownBlock = some W.heap.size) : ∃ A' c', v' = .slice A' (k + 1) c' ∧ OwnK K w' lo w'.heap.size A' c' (gs ++ [x]) := by
  have e : (gs.map K.cs).flatten ++ K.cs x = ((gs ++ [x]).map K.cs).flatten := by simp
  rw [e] at hown
  obtain ⟨A', c', hv, hl, ho⟩ := Own.ofRow hown (cs_len K _) hsz (hi := w'.heap.size) (fun k hk => (hown.lt k hk).2)
  rw [List.length_map, List.length_append, hk] at hv
  have hp : ∀ p, A' = some p → (∃ q, A = some q ∧ q.block = p.block) ∨ p.block = W.heap.size := fun p hp => by
    subst hp
    subst hv
    rcases hat with h | h
    · cases A with
      | none => simp [Value.ownBlock] at h
      | some q => exact .inl ⟨q, rfl, by simpa [Value.ownBlock] using h.symm⟩
    · exact .inr (by simpa [Value.ownBlock] using h)
  have hA : ∀ q, A = some q → lo ≤ q.block ∧ q.block < m := fun q hq => by have := Own.block hgs.1 q hq; exact ⟨this.1, this.2.1⟩
  have hkeep : ∀ y, (∀ q, A = some q → q.block < K.lo y ∨ K.hi y ≤ q.block) → Keep (K.lo y) (K.hi y) W w' := fun y hy b h1 h2 h3 => hgr.block b h3 (fun e => by
    cases A with
    | none => simp [Value.ownBlock] at e
    | some q =>
      simp [Value.ownBlock] at e
      have := hy q rfl
      omega)
  have hle := K.ow_le hx
  refine ⟨A', c', hv, ho, fun y hy => ?_, List.pairwise_append.2 ⟨hgs.2.2, List.pairwise_singleton _ _, fun a ha b hb => ?_⟩⟩
  · rcases List.mem_append.1 hy with hy | hy
    · obtain ⟨h1, h2, h3, h4⟩ := hgs.2.1 y hy
      refine ⟨K.ow_keep h1 (hkeep y h4), h2, Nat.le_trans h3 (Nat.le_trans hm hgr.size), fun p hpp => ?_⟩
      rcases hp p hpp with ⟨q, hq, hqp⟩ | hq
      · rw [← hqp]; exact h4 q hq
      · exact .inr (by omega)
    · rw [List.mem_singleton.1 hy]
      refine ⟨K.ow_keep hx (hkeep x fun q hq => .inl (by have := hA q hq; omega)), by omega, Nat.le_trans hx2 hgr.size, fun p hpp => ?_⟩
      rcases hp p hpp with ⟨q, hq, hqp⟩ | hq
      · exact .inl (by have := hA q hq; omega)
      · exact .inr (by omega)
  · rw [List.mem_singleton.1 hb]
    exact .inl (by have := (hgs.2.1 a ha).2.2.1; omega)
/-- What lies before the call stands. -/
theorem kd_below {α : Type} {K : Kd α} {w W w' : World} {lo m k c : Nat} {A : Option Addr} {gs : List α} (hgs : OwnK K W lo m A c gs) (hb : Below lo w W) (hlo : lo ≤ w.heap.size) (hgr : W.grownBy w' (Value.slice A k c).ownBlock) : Below lo w w' :=
  hb.grown hgr (by have := hb.size; omega) (fun b hbk => by
    cases A with
    | none => simp [Value.ownBlock] at hbk
    | some q => simp [Value.ownBlock] at hbk; have := (Own.block hgs.1 q rfl).1; omega)
/-- A list appended to a new empty row. -/
theorem app_empty {W w1 : World} {t : TypeId} {sz n : Nat} {L : List (List Value)} {v1 : Value} (hown1 : w1.ownsRow W.heap.size t sz v1 (0 + n) ([] ++ L.flatten)) (hgr1 : (W.alloc (.cells #[] t)).grownBy w1 (Value.slice (some ⟨W.heap.size, 0, none⟩) 0 0).ownBlock) (hL : ∀ x ∈ L, x.length = sz) (hsz : 0 < sz) (hn : L.length = n) : ∃ A1 c1, v1 = .slice A1 n c1 ∧ Own w1 W.heap.size w1.heap.size t sz A1 c1 L ∧ Below W.heap.size W w1 := by
  obtain ⟨A1, c1, hv, _, ho⟩ := Own.ofRow (w := w1) (lo := W.heap.size) (t := t) (sz := sz) (n := n) (v := v1) (L := L) (hi := w1.heap.size) (by simpa using hown1) hL hsz (fun k hk => (hown1.lt k hk).2)
  rw [hn] at hv
  exact ⟨A1, c1, hv, ho, (below1 W (.cells #[] t)).grown hgr1 (by simp) (fun k hk => by simp [Value.ownBlock] at hk; omega)⟩
theorem ownK_empty {α : Type} (K : Kd α) (w : World) : OwnK K (w.alloc (.cells #[] K.t)) w.heap.size (w.alloc (.cells #[] K.t)).heap.size (some ⟨w.heap.size, 0, none⟩) 0 [] :=
  ⟨.inr ⟨w.heap.size, #[], rfl, Nat.le_refl _, by simp, heap_alloc_new _ _, by simp, by unfold maxLen; omega, by simp, fun j hj => by simp at hj⟩, Nst.nil⟩

def SpecLPost (es : List EH) (n : Nat) (w : World) (e : Ending) (w' : World) : Prop :=
  ∃ A1 c1 gs, e = .returned (.slice A1 n c1) ∧ gs.map EH.d = es.map EH.d ∧ OwnK KE w' w.heap.size w'.heap.size A1 c1 gs ∧ Below w.heap.size w w'
set_option maxRecDepth 100000 in
set_option maxHeartbeats 8000000 in
theorem l9OwnLog_any (A : Option Addr) (n c : Nat) (es : List EH) (B : Nat) (w : World) (hn : es.length = n) (h : RowsB KE w B A es) (hB : B ≤ w.heap.size) (hm : LgSmall (es.map EH.d)) :
    Calls Try.prog 69 #[.slice A n c] w (SpecLPost es n w) := by
  obtain ⟨iS, hiS, hzS0, hzS1, hzS2⟩ := info_parts infoStr
  obtain ⟨iW, hiW, hzW0, hzW1, hzW2⟩ := info_parts infoWrite
  obtain ⟨iE, hiE, hzE0, hzE1, hzE2⟩ := info_parts infoEnt
  obtain ⟨hl, hms⟩ := hm
  have hnl : n ≤ 1048576 := by simp at hl; omega
  have HN := Lib.hid hn
  have HM := Lib.hid (fun e (he : e ∈ es) => hms e.d (List.mem_map_of_mem he))
  have HR := Lib.hid h
  have HE0 := Lib.hid (ownK_empty KE w)
  have HB0 := Lib.hid (below1 w (.cells #[] 78))
  clear hn h hl hms
  go_enter Try.func69, Try.ntmps69
  go_wp2
  go_loopw [3, 4] (fun v j wr => ∃ (ds rt gs : List EH) (A1 : Option Addr) (k c1 : Nat), Hid (es = ds ++ rt) ∧ Hid (gs.map EH.d = ds.map EH.d) ∧ Hid (ds.length = k) ∧ j = .int .i64 k ∧ v = .slice A1 k c1 ∧ Hid (OwnK KE wr w.heap.size wr.heap.size A1 c1 gs) ∧ Hid (Below w.heap.size w wr)) (fun _ j _ => n - (intOf j).toNat)
  case atStart => exact ⟨[], es, [], some ⟨w.heap.size, 0, none⟩, 0, 0, rfl, rfl, rfl, rfl, rfl, HE0, HB0⟩
  case round =>
    clear HE0 HB0
    obtain ⟨ds, rt, gs, A1, k, c1, HS, HG, HK, rfl, rfl, HO, HB⟩ := hrel
    have hlen : k + rt.length = n := by rw [← HN.out, HS.out, List.length_append, HK.out]
    have HGL := Lib.hid (show gs.length = k by rw [← HK.out, dats_len HG.out])
    cases rt with
    | cons x t =>
      have hmx := HM.out x (by rw [HS.out]; simp)
      obtain ⟨b, off, rfl, hbB, hc⟩ := en_get HR.out (by rw [HN.out]; simp at hlen; omega)
      obtain ⟨hc0, hc1, hc2, hc3, hc4, hc5, hc6, hc7⟩ := hc k (by rw [HN.out]; simp at hlen; omega)
      have hrx := HR.out.2 x (by rw [HS.out]; simp)
      have ex : es[k]'(by rw [HN.out]; simp at hlen; omega) = x := by
        have e1 : es[k]'(by rw [HN.out]; simp at hlen; omega) = (ds ++ x :: t)[k]'(by simp; have := HK.out; omega) := by simp only [HS.out]
        rw [e1, List.getElem_append_right (by rw [HK.out]; exact Nat.le_refl _)]
        simp [HK.out]
      rw [ex] at hc0 hc1 hc2 hc3 hc4 hc5 hc6 hc7
      have hb := HB.out
      have p0 := (hb.cell (p := ⟨b, off + k * 8, none⟩) (Nat.lt_of_lt_of_le hbB hB)).trans hc0
      have p1 := (hb.cell (p := ⟨b, off + k * 8 + 1, none⟩) (Nat.lt_of_lt_of_le hbB hB)).trans hc1
      have p2 := (hb.cell (p := ⟨b, off + k * 8 + 2, none⟩) (Nat.lt_of_lt_of_le hbB hB)).trans hc2
      have p3 := (hb.cell (p := ⟨b, off + k * 8 + 3, none⟩) (Nat.lt_of_lt_of_le hbB hB)).trans hc3
      have p4 := (hb.cell (p := ⟨b, off + k * 8 + 4, none⟩) (Nat.lt_of_lt_of_le hbB hB)).trans hc4
      have p5 := (hb.cell (p := ⟨b, off + k * 8 + 5, none⟩) (Nat.lt_of_lt_of_le hbB hB)).trans hc5
      have p6 := (hb.cell (p := ⟨b, off + k * 8 + 6, none⟩) (Nat.lt_of_lt_of_le hbB hB)).trans hc6
      have p7 := (hb.cell (p := ⟨b, off + k * 8 + 7, none⟩) (Nat.lt_of_lt_of_le hbB hB)).trans hc7
      have hBr := Nat.le_trans hB hb.size
      obtain ⟨⟨tm, kk, tt, xx, ll, yy, rs, ws⟩, Ar, cr, Aw, cw, elo, em, ehi⟩ := x
      simp only at p0 p1 p2 p3 p4 p5 p6 p7 hrx hmx
      have hlt : k < n := by simp at hlen; omega
      obtain ⟨nr, hvnr⟩ : ∃ nr, nr = rs.length := ⟨_, rfl⟩
      obtain ⟨nw, hvnw⟩ : ∃ nw, nw = ws.length := ⟨_, rfl⟩
      rw [← hvnr] at p5
      rw [← hvnw] at p6
      have hnr : nr ≤ 1048576 := by rw [hvnr]; exact hmx.1.1
      have hnw : nw ≤ 1048576 := by rw [hvnw]; exact hmx.2.1
      have HRS := Lib.hid (show StrsB wr B Ar rs from hrx.1.below (hb.mono hB))
      have HWS := Lib.hid (show WritesB wr B Aw ws from hrx.2.below (hb.mono hB))
      have HVR := Lib.hid hvnr
      have HVW := Lib.hid hvnw
      have hj0 : (0 : Int) ≤ (k : Int) := by omega
      have hj1 : (k : Int) < (n : Int) := by omega
      have hbw : b < wr.heap.size := Nat.lt_of_lt_of_le hbB hBr
      clear hc hc0 hc1 hc2 hc3 hc4 hc5 hc6 hc7 hrx hmx ex hvnr hvnw hb
      go_upto_region 6 with fail
      -- the variable's block
      have hbx := below1 wr (.cells #[.int .i64 tm, .int .i64 kk, .int .i64 tt, .int .i64 xx, .int .i64 ll, .slice Ar nr cr, .slice Aw nw cw, .bool yy] 78)
      have hkx := heap_alloc_new wr (.cells #[.int .i64 tm, .int .i64 kk, .int .i64 tt, .int .i64 xx, .int .i64 ll, .slice Ar nr cr, .slice Aw nw cw, .bool yy] 78)
      obtain ⟨V, hV⟩ : ∃ V, V = wr.alloc (.cells #[.int .i64 tm, .int .i64 kk, .int .i64 tt, .int .i64 xx, .int .i64 ll, .slice Ar nr cr, .slice Aw nw cw, .bool yy] 78) := ⟨_, rfl⟩
      rw [← hV] at hbx hkx ⊢
      have HVs := Lib.hid (show V.heap.size = wr.heap.size + 1 by rw [hV]; simp)
      clear hV p0 p1 p2 p3 p4 p5 p6 p7
      have HKX := Lib.hid hkx
      have HBX := Lib.hid hbx
      have HSRC := Lib.hid (strs_src (n := nr) ((HRS.out.below (hbx.mono hBr)).below ((below1 V (.cells #[] 9)).mono (Nat.le_trans hBr hbx.size))) HVR.out.symm)
      have HSL := Lib.hid (show ((rs.map strCs).flatten).length = nr * 1 by rw [flat_len (strCs_len _), List.length_map, HVR.out])
      have HOE := Lib.hid (own_empty V V.heap.size 9 1 (Nat.le_refl _))
      have x5 := cell_blk (i := 5) hkx rfl
      have fx := free_blk hkx
      have hlV : wr.heap.size < V.heap.size := lt_blk hkx
      clear hbx hkx
      go_upto_region 7 with (at_builtin; refine wpList_app rfl (.tmp 17) (.tmp 20) 39 rfl V.heap.size 9 iS _ 1 16 Try.underlying39 hiS hzS0 hzS1 hzS2 rfl (by decide) (.slice (some ⟨V.heap.size, 0, none⟩) 0 0) 0 [] rfl HOE.out Ar nr cr ((rs.map strCs).flatten) rfl HSL.out HSRC.out (strCs_one rs) (by unfold maxLen; omega) (by omega) (by simp) ?_; intro v1 w1 hown1 hgr1 _; obtain ⟨B1, b1, rfl, ho1, hb1⟩ := app_empty hown1 hgr1 (strCs_len _) (by decide) (by rw [List.length_map]; exact HVR.out.symm); have hk1 := (hb1.block wr.heap.size hlV).trans HKX.out; have x5 := cell_blk (i := 5) hk1 rfl; have fx := free_blk hk1; have hl1 := lt_blk hk1; have HK1 := Lib.hid hk1; have HB1 := Lib.hid hb1; have HO1 := Lib.hid ho1; clear hown1 hgr1 ho1 hb1 hk1)
      have kx2 := set_blk HK1.out (i := 5) (.slice B1 nr b1)
      have hb2 : Below wr.heap.size wr (w1.setCell ⟨wr.heap.size, 5, none⟩ (.slice B1 nr b1)) := (HBX.out.trans (HB1.out.mono HBX.out.size)).setCell (p := ⟨wr.heap.size, 5, none⟩) (Nat.le_refl _) _
      have hoS : OwnS (w1.setCell ⟨wr.heap.size, 5, none⟩ (.slice B1 nr b1)) V.heap.size w1.heap.size B1 b1 rs := Own.keep HO1.out (keep_set (p := ⟨wr.heap.size, 5, none⟩) (.inl hlV) _)
      obtain ⟨V2, hV2⟩ : ∃ V2, V2 = w1.setCell ⟨wr.heap.size, 5, none⟩ (.slice B1 nr b1) := ⟨_, rfl⟩
      rw [← hV2] at kx2 hb2 hoS ⊢
      have HV2s := Lib.hid (show V2.heap.size = w1.heap.size by rw [hV2]; simp [World.setCell])
      clear hV2 x5 fx hl1
      have HKX2 := Lib.hid kx2
      have HBX2 := Lib.hid hb2
      have HOS := Lib.hid hoS
      have HSRC2 := Lib.hid (wrs_src (n := nw) ((HWS.out.below (hb2.mono hBr)).below ((below1 V2 (.cells #[] 108)).mono (Nat.le_trans hBr hb2.size))) HVW.out.symm)
      have HSL2 := Lib.hid (show ((ws.map wrCs).flatten).length = nw * 3 by rw [flat_len (wrCs_len _), List.length_map, HVW.out])
      have HOE2 := Lib.hid (own_empty V2 V2.heap.size 108 3 (Nat.le_refl _))
      have x6 := cell_blk (i := 6) kx2 rfl
      have fx := free_blk kx2
      have hlV2 : wr.heap.size < V2.heap.size := lt_blk kx2
      clear hb2 kx2 hoS
      go_upto_region 8 with (at_builtin; refine wpList_app rfl (.tmp 24) (.tmp 27) 45 rfl V2.heap.size 108 iW _ 3 40 Try.underlying45 hiW hzW0 hzW1 hzW2 rfl (by decide) (.slice (some ⟨V2.heap.size, 0, none⟩) 0 0) 0 [] rfl HOE2.out Aw nw cw ((ws.map wrCs).flatten) rfl HSL2.out HSRC2.out (wrCs_one2 ws) (by unfold maxLen; omega) (by omega) (by simp) ?_; intro v2 w2 hown2 hgr2 _; obtain ⟨B2, b2, rfl, ho2, hb2⟩ := app_empty hown2 hgr2 (wrCs_len _) (by decide) (by rw [List.length_map]; exact HVW.out.symm); have hk2 := (hb2.block wr.heap.size hlV2).trans HKX2.out; have x6 := cell_blk (i := 6) hk2 rfl; have fx := free_blk hk2; have hl2 := lt_blk hk2; have HK2 := Lib.hid hk2; have HB2 := Lib.hid hb2; have HO2 := Lib.hid ho2; clear hown2 hgr2 ho2 hb2 hk2)
      have kx3 := set_blk HK2.out (i := 6) (.slice B2 nw b2)
      have hb3 : Below wr.heap.size wr (w2.setCell ⟨wr.heap.size, 6, none⟩ (.slice B2 nw b2)) := (HBX2.out.trans (HB2.out.mono HBX2.out.size)).setCell (p := ⟨wr.heap.size, 6, none⟩) (Nat.le_refl _) _
      have hoW : OwnW (w2.setCell ⟨wr.heap.size, 6, none⟩ (.slice B2 nw b2)) V2.heap.size w2.heap.size B2 b2 ws := Own.keep HO2.out (keep_set (p := ⟨wr.heap.size, 6, none⟩) (.inl hlV2) _)
      have hoS : OwnS (w2.setCell ⟨wr.heap.size, 6, none⟩ (.slice B2 nw b2)) V.heap.size w1.heap.size B1 b1 rs := Own.keep (Own.keep HOS.out (keep_since HB2.out)) (keep_set (p := ⟨wr.heap.size, 6, none⟩) (.inl hlV) _)
      obtain ⟨V3, hV3⟩ : ∃ V3, V3 = w2.setCell ⟨wr.heap.size, 6, none⟩ (.slice B2 nw b2) := ⟨_, rfl⟩
      rw [← hV3] at kx3 hb3 hoS hoW ⊢
      have HV3s := Lib.hid (show V3.heap.size = w2.heap.size by rw [hV3]; simp [World.setCell])
      have hsz := HV2s.out
      have hz12 := HB1.out.size
      have hz22 := HB2.out.size
      rw [hsz] at hoW
      have hXO : EnO V3 ⟨⟨tm, kk, tt, xx, ll, yy, rs, ws⟩, B1, b1, B2, b2, V.heap.size, w1.heap.size, w2.heap.size⟩ := ⟨hz12, by rw [← hsz]; exact hz22, hoS, hoW⟩
      have ern := HVR.out
      have ewn := HVW.out
      subst ern ewn
      have hO3 := HO.out.since hb3
      have hbr := below1 V3 (.cells #[.int .i64 tm, .int .i64 kk, .int .i64 tt, .int .i64 xx, .int .i64 ll, .slice B1 rs.length b1, .slice B2 ws.length b2, .bool yy] 78)
      have hOw := hO3.since hbr
      have hXw := KE.ow_keep hXO (keep_since hbr)
      have HLW := Lib.hid (show wr.heap.size ≤ V.heap.size ∧ w2.heap.size ≤ (V3.alloc (.cells #[.int .i64 tm, .int .i64 kk, .int .i64 tt, .int .i64 xx, .int .i64 ll, .slice B1 rs.length b1, .slice B2 ws.length b2, .bool yy] 78)).heap.size ∧ wr.heap.size ≤ (V3.alloc (.cells #[.int .i64 tm, .int .i64 kk, .int .i64 tt, .int .i64 xx, .int .i64 ll, .slice B1 rs.length b1, .slice B2 ws.length b2, .bool yy] 78)).heap.size from ⟨Nat.le_of_lt hlV, by rw [← HV3s.out]; simp, Nat.le_trans hb3.size hbr.size⟩)
      have HROW := Lib.hid (show (V3.alloc (.cells #[.int .i64 tm, .int .i64 kk, .int .i64 tt, .int .i64 xx, .int .i64 ll, .slice B1 rs.length b1, .slice B2 ws.length b2, .bool yy] 78)).ownsRow w.heap.size 78 8 (.slice A1 k c1) k ((gs.map enCs).flatten) from by
        have h7 := Own.toRow hOw.1 (cs_len KE gs) (by decide)
        rw [List.length_map, HGL.out] at h7
        exact h7)
      have HBW := Lib.hid (HB.out.trans ((hb3.trans (hbr.mono hb3.size)).mono HB.out.size))
      have HNEW := Lib.hid (heap_alloc_new V3 (.cells #[.int .i64 tm, .int .i64 kk, .int .i64 tt, .int .i64 xx, .int .i64 ll, .slice B1 rs.length b1, .slice B2 ws.length b2, .bool yy] 78))
      have HXW := Lib.hid hXw
      have HOW := Lib.hid hOw
      have HWZ := Lib.hid (show w.heap.size ≤ wr.heap.size from HB.out.size)
      have x0 := cell_blk (i := 0) kx3 rfl
      have x1 := cell_blk (i := 1) kx3 rfl
      have x2 := cell_blk (i := 2) kx3 rfl
      have x3 := cell_blk (i := 3) kx3 rfl
      have x4 := cell_blk (i := 4) kx3 rfl
      have x5 := cell_blk (i := 5) kx3 rfl
      have x6' := cell_blk (i := 6) kx3 rfl
      have x7 := cell_blk (i := 7) kx3 rfl
      clear hV3 x6 fx hl2 hoS hoW hsz hz12 hz22 hXO hO3 hbr hOw hXw kx3
      go_wp2_with (at_builtin; refine wpList_app rfl (.tmp 31) (.tmp 33) 53 rfl w.heap.size 78 iE _ 8 96 Try.underlying53 hiE hzE0 hzE1 hzE2 rfl (by decide) (.slice A1 k c1) k ((gs.map enCs).flatten) rfl HROW.out (some ⟨V3.heap.size, 0, none⟩) 1 1 (enCs ⟨⟨tm, kk, tt, xx, ll, yy, rs, ws⟩, B1, b1, B2, b2, V.heap.size, w1.heap.size, w2.heap.size⟩) rfl rfl (fun _ => ⟨_, rfl, World.news_of_block (cs := #[.int .i64 tm, .int .i64 kk, .int .i64 tt, .int .i64 xx, .int .i64 ll, .slice B1 rs.length b1, .slice B2 ws.length b2, .bool yy]) (t := 78) (fr := (0, 0)) HNEW.out⟩) (by simp [enCs, Value.oneCell']) (by unfold maxLen; omega) (by omega) (Nat.le_trans HWZ.out HLW.out.2.2) ?_; intro v4 w4 hown4 hgr4 hat4; obtain ⟨A4, c4, rfl, ho4⟩ := kd_app (K := KE) (x := ⟨⟨tm, kk, tt, xx, ll, yy, rs, ws⟩, B1, b1, B2, b2, V.heap.size, w1.heap.size, w2.heap.size⟩) HOW.out HLW.out.2.2 HWZ.out HXW.out HLW.out.1 HLW.out.2.1 HGL.out (by decide) hown4 hgr4 hat4; have HB4 := Lib.hid (kd_below (K := KE) HOW.out HBW.out (Nat.le_refl _) hgr4); have HO4 := Lib.hid ho4; clear hown4 hgr4 hat4 ho4 x0 x1 x2 x3 x4 x5 x6' x7)
      go_roundw
      case rel =>
        refine ⟨ds ++ [⟨⟨tm, kk, tt, xx, ll, yy, rs, ws⟩, Ar, cr, Aw, cw, elo, em, ehi⟩], t, gs ++ [⟨⟨tm, kk, tt, xx, ll, yy, rs, ws⟩, B1, b1, B2, b2, V.heap.size, w1.heap.size, w2.heap.size⟩], A4, k + 1, c4, ?_, ?_, ?_, by go_num, rfl, HO4, HB4⟩
        · show _ = _; rw [HS.out]; simp
        · show _ = _; rw [List.map_append, List.map_append, HG.out]; rfl
        · show _ = _; rw [List.length_append, HK.out]; rfl
      case measure => simp [intOf]; omega
    | nil =>
      have hjn : k = n := by simpa using hlen
      subst hjn
      have HX := Lib.hid (show SpecLPost es k w (.returned (.slice A1 k c1)) wr from ⟨A1, c1, gs, rfl, by rw [HG.out, HS.out, List.append_nil], HO.out, HB.out⟩)
      go_wp2
      go_ret
      exact HX.out
end Go.Proofs.Ytnmhigbnlpcedaa.Gr
