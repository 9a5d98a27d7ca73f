/-
  Houses: the laws' helpers that compare and mark; what a call owns; the answer of the functions that hand back a house.
-/
import Derived.Test.YtkhndofplebcaaaHsDh
import Derived.Test.YtkhndofplebcaaaGrCt
import Derived.Test.YtkhndofplebcaaaGrW
namespace Go.Proofs.Ytkhndofplebcaaa.Hs
open Go.RowKit CM Gr
set_option linter.unusedVariables false
set_option linter.unusedSimpArgs false

/-- A house of the call's own: the group's blocks and the disks' row lie apart. -/
def OwnH (w : World) (lo hi : Nat) (A : Option Addr) (c : Nat) (gs : List RH) (D : Option Addr) (d : Nat) (ds : List DK) : Prop :=
  ∃ l1 h1 l2 h2, lo ≤ l1 ∧ l1 ≤ h1 ∧ h1 ≤ hi ∧ lo ≤ l2 ∧ l2 ≤ h2 ∧ h2 ≤ hi ∧ (h1 ≤ l2 ∨ h2 ≤ l1) ∧ OwnK KR w l1 h1 A c gs ∧ OwnD w l2 h2 D d ds
theorem OwnH.since {w w' : World} {lo hi c d : Nat} {A D : Option Addr} {gs : List RH} {ds : List DK} (h : OwnH w lo hi A c gs D d ds) (hb : Below w.heap.size w w') : OwnH w' lo hi A c gs D d ds := by
  obtain ⟨l1, h1, l2, h2, a1, a2, a3, a4, a5, a6, a7, hk, hd⟩ := h
  exact ⟨l1, h1, l2, h2, a1, a2, a3, a4, a5, a6, a7, hk.since hb, hd.since hb⟩
theorem OwnH.mid {w w' : World} {lo hi lo' hi' c d : Nat} {A D : Option Addr} {gs : List RH} {ds : List DK} (h : OwnH w lo hi A c gs D d ds) (hm : Mid lo' hi' w w') (hx : hi' ≤ lo ∨ hi ≤ lo') : OwnH w' lo hi A c gs D d ds := by
  obtain ⟨l1, h1, l2, h2, a1, a2, a3, a4, a5, a6, a7, hk, hd⟩ := h
  exact ⟨l1, h1, l2, h2, a1, a2, a3, a4, a5, a6, a7, hk.mid hm (by omega), hd.mid hm (by omega)⟩
theorem OwnH.rows {w : World} {lo hi c d : Nat} {A D : Option Addr} {gs : List RH} {ds : List DK} (h : OwnH w lo hi A c gs D d ds) : RowsB KR w hi A gs := by
  obtain ⟨l1, h1, l2, h2, a1, a2, a3, a4, a5, a6, a7, hk, hd⟩ := h
  exact hk.rows.mono a3
theorem OwnH.dks {w : World} {lo hi c d : Nat} {A D : Option Addr} {gs : List RH} {ds : List DK} (h : OwnH w lo hi A c gs D d ds) : DksB w hi D ds := by
  obtain ⟨l1, h1, l2, h2, a1, a2, a3, a4, a5, a6, a7, hk, hd⟩ := h
  exact hd.dks.mono a6
theorem OwnH.wider {w : World} {lo hi lo' hi' c d : Nat} {A D : Option Addr} {gs : List RH} {ds : List DK} (h : OwnH w lo hi A c gs D d ds) (k1 : lo' ≤ lo) (k2 : hi ≤ hi') : OwnH w lo' hi' A c gs D d ds := by
  obtain ⟨l1, h1, l2, h2, a1, a2, a3, a4, a5, a6, a7, hk, hd⟩ := h
  exact ⟨l1, h1, l2, h2, by omega, a2, by omega, by omega, a5, by omega, a7, hk, hd⟩
theorem OwnH.nil {w : World} {lo hi : Nat} (h : lo ≤ hi) : OwnH w lo hi none 0 [] none 0 [] := ⟨lo, lo, lo, lo, Nat.le_refl _, Nat.le_refl _, h, Nat.le_refl _, Nat.le_refl _, h, .inl (Nat.le_refl _), OwnK.nil, .inl ⟨rfl, rfl, rfl⟩⟩
/-- A house's answer: replicas, term, leader, disks, whether it is one. -/
abbrev HA := List RD × Int × Int × List DK × Bool
def noHA : HA := ([], 0, 0, [], false)
def HAPost (a : HA) (w : World) (e : Ending) (w' : World) : Prop :=
  ∃ A c gs D d, e = .returned (.tuple #[.agg #[.slice A a.1.length c, .int .i64 a.2.1, .int .i64 a.2.2.1, .slice D a.2.2.2.1.length d], .bool a.2.2.2.2]) ∧ gs.map rdat = a.1 ∧ OwnH w' w.heap.size w'.heap.size A c gs D d a.2.2.2.1 ∧ Below w.heap.size w w'
theorem HAPost_un (l : List RD) (at_ al : Int) (ds : List DK) (ok : Bool) (w : World) : HAPost (l, at_, al, ds, ok) w = fun e w' => ∃ A c gs D d, e = .returned (.tuple #[.agg #[.slice A l.length c, .int .i64 at_, .int .i64 al, .slice D ds.length d], .bool ok]) ∧ gs.map rdat = l ∧ OwnH w' w.heap.size w'.heap.size A c gs D d ds ∧ Below w.heap.size w w' := rfl
theorem noHA_post {w w' : World} (hb : Below w.heap.size w w') : HAPost noHA w (.returned (.tuple #[.agg #[.slice none 0 0, .int .i64 0, .int .i64 0, .slice none 0 0], .bool false])) w' := ⟨none, 0, [], none, 0, rfl, rfl, OwnH.nil hb.size, hb⟩


set_option maxRecDepth 100000 in
set_option maxHeartbeats 2000000 in
theorem eqHouse_same (A A' D D' : Option Addr) (n c c' m d d' : Nat) (tm ld : Int) (hs gs : List RH) (ds : List DK) (B : Nat) (w : World) (hn : hs.length = n) (hd : gs.map rdat = hs.map rdat) (h : RowsB KR w B A hs) (h' : RowsB KR w B A' gs) (hm : RpSmall (hs.map rdat)) (hmd : ds.length = m) (hD : DksB w B D ds) (hD' : DksB w B D' ds) (hdl : m ≤ 1048576) (hB : B ≤ w.heap.size) :
    Calls Try.prog 20 #[.agg #[.slice A n c, .int .i64 tm, .int .i64 ld, .slice D m d], .agg #[.slice A' n c', .int .i64 tm, .int .i64 ld, .slice D' m d']] w fun e w' => e = .returned (.bool true) ∧ Below w.heap.size w w' := by
  have hb0 := below2 w (.cells #[.slice A n c, .int .i64 tm, .int .i64 ld, .slice D m d] 48) (.cells #[.slice A' n c', .int .i64 tm, .int .i64 ld, .slice D' m d'] 48)
  have ka := alloc2_a w (.cells #[.slice A n c, .int .i64 tm, .int .i64 ld, .slice D m d] 48) (.cells #[.slice A' n c', .int .i64 tm, .int .i64 ld, .slice D' m d'] 48)
  have kb := alloc2_b w (.cells #[.slice A n c, .int .i64 tm, .int .i64 ld, .slice D m d] 48) (.cells #[.slice A' n c', .int .i64 tm, .int .i64 ld, .slice D' m d'] 48)
  have HG := Lib.hid (eqGroup_same A A' n c c' tm ld hs gs B _ hn hd (h.below (hb0.mono hB)) (h'.below (hb0.mono hB)) hm (Nat.le_trans hB hb0.size))
  have HD2 := Lib.hid (fun W (hW : Below w.heap.size w W) => eqDiskS_same D D' m d d' ds B W hmd (hD.below (hW.mono hB)) (hD'.below (hW.mono hB)) (Nat.le_trans hB hW.size) hdl)
  have HB0 := Lib.hid hb0
  have KA := Lib.hid ka
  have KB := Lib.hid kb
  clear hn hd h h' hm hmd hD hD' hdl hB hb0 ka kb
  go_enter Try.func20, Try.ntmps20
  go_wp2_with fail
  refine HG.out.mono ?_
  rintro e w1 ⟨rfl, hb1⟩
  have k1 := (hb1.block _ (lt_blk KA.out)).trans KA.out
  have k2 := (hb1.block _ (lt_blk KB.out)).trans KB.out
  have a3 := cell_blk (i := 3) k1 rfl
  have b3 := cell_blk (i := 3) k2 rfl
  have l1 := lt_blk k1
  have l2 := lt_blk k2
  have HB1 := Lib.hid (HB0.out.trans (hb1.mono HB0.out.size))
  clear hb1 k1 k2
  go_wp2_with fail
  refine (HD2.out _ HB1.out).mono ?_
  rintro e w2 ⟨rfl, hb2⟩
  have HB2 := Lib.hid (HB1.out.trans (hb2.mono HB1.out.size))
  clear hb2 a3 b3
  go_wp2
  go_ret
  exact ⟨rfl, HB2.out⟩

set_option maxRecDepth 100000 in
set_option maxHeartbeats 2000000 in
theorem markHouse_any (A D : Option Addr) (n c m d lo hi : Nat) (tm ld : Int) (hs : List RH) (ds : List DK) (w : World) (hn : hs.length = n) (hmd : ds.length = m) (ho : OwnH w lo hi A c hs D d ds) (hhi : hi ≤ w.heap.size) (hk : aft nxR 1 hs + 2 * m ≤ 1000000000) :
    Calls Try.prog 21 #[.agg #[.slice A n c, .int .i64 tm, .int .i64 ld, .slice D m d], .int .i64 1] w fun e w' => e = .returned (.int .i64 ((aft nxR 1 hs + 2 * m : Nat) : Int)) ∧ OwnH w' lo hi A c (mkAll mkR nxR 1 hs) D d (mDks (aft nxR 1 hs) m) ∧ Mid lo hi w w' := by
  obtain ⟨l1, h1, l2, h2, a1, a2, a3, a4, a5, a6, a7, hok, hod⟩ := ho
  have hq1 : 1 ≤ aft nxR 1 hs := aft_up (fun k x => Nat.le_trans (Nat.le_succ k) (nxR_up k x)) 1 hs
  have hb1 := below1 w (.cells #[.slice A n c, .int .i64 tm, .int .i64 ld, .slice D m d] 48)
  have kb := heap_alloc_new w (.cells #[.slice A n c, .int .i64 tm, .int .i64 ld, .slice D m d] 48)
  have HM := Lib.hid (markGroup_any A n c l1 h1 tm ld hs _ hn (hok.since hb1) (Nat.le_trans (Nat.le_trans a3 hhi) hb1.size) (by omega))
  obtain ⟨q, hq⟩ : ∃ q, q = aft nxR 1 hs := ⟨_, rfl⟩
  rw [← hq] at HM hk hq1 ⊢
  have HOD := Lib.hid (hod.since hb1)
  have HMD := Lib.hid (fun W (hW : OwnD W l2 h2 D d ds) => markDiskS_any D m d q l2 h2 ds W hmd hW hq1 (by omega))
  have HB := Lib.hid (Below.mid (lo := lo) (hi := hi) hb1)
  have KB := Lib.hid kb
  have hzz := hb1.size
  have HDB := Lib.hid (fun x hx => Own.block hod x hx)
  clear hq hok hod hb1 kb hn hmd
  go_enter Try.func21, Try.ntmps21
  go_wp2_with fail
  refine HM.out.mono ?_
  rintro e w1 ⟨rfl, hmi, hmm⟩
  have k1 := (hmm.2.2.2.2 _ (lt_blk KB.out) (.inr (by omega))).trans KB.out
  have b3 := cell_blk (i := 3) k1 rfl
  have l9 := lt_blk k1
  have HK1 := Lib.hid hmi
  have HD1 := Lib.hid (HOD.out.mid hmm (by omega))
  have HB1 := Lib.hid (HB.out.trans (mid_wide hmm ⟨a1, a3⟩))
  clear hmi hmm k1
  go_wp2_with fail
  refine (HMD.out _ HD1.out).mono ?_
  rintro e w2 ⟨rfl, hod2, hma⟩
  have hm2 : Mid l2 h2 w1 w2 := hma.mid (fun x hx => ⟨(HDB.out x hx).1, (HDB.out x hx).2.1⟩)
  have HF := Lib.hid (show OwnH w2 lo hi A c (mkAll mkR nxR 1 hs) D d (mDks q m) ∧ Mid lo hi w w2 from ⟨⟨l1, h1, l2, h2, a1, a2, a3, a4, a5, a6, a7, HK1.out.mid hm2 (by omega), hod2⟩, HB1.out.trans (mid_wide hm2 ⟨a4, a6⟩)⟩)
  clear hod2 hma hm2 b3
  go_wp2
  go_ret
  exact ⟨rfl, HF.out⟩

set_option maxRecDepth 100000 in
set_option maxHeartbeats 2000000 in
theorem heldHouse_any (A D : Option Addr) (n c m d B : Nat) (tm ld : Int) (hs : List RH) (w : World) (hn : hs.length = n) (h : RowsB KR w B A (mkAll mkR nxR 1 hs)) (hd : DksB w B D (mDks (aft nxR 1 hs) m)) (hB : B ≤ w.heap.size) (hk : aft nxR 1 hs + 2 * m ≤ 1000000000) :
    Calls Try.prog 22 #[.agg #[.slice A n c, .int .i64 tm, .int .i64 ld, .slice D m d], .int .i64 1] w fun e w' => e = .returned (.int .i64 ((aft nxR 1 hs + 2 * m : Nat) : Int)) ∧ Below w.heap.size w w' := by
  have hq1 : 1 ≤ aft nxR 1 hs := aft_up (fun k x => Nat.le_trans (Nat.le_succ k) (nxR_up k x)) 1 hs
  have hb1 := below1 w (.cells #[.slice A n c, .int .i64 tm, .int .i64 ld, .slice D m d] 48)
  have kb := heap_alloc_new w (.cells #[.slice A n c, .int .i64 tm, .int .i64 ld, .slice D m d] 48)
  have HM := Lib.hid (heldGroup_any A n c B tm ld hs _ hn (h.below (hb1.mono hB)) (Nat.le_trans hB hb1.size) (by omega))
  obtain ⟨q, hq⟩ : ∃ q, q = aft nxR 1 hs := ⟨_, rfl⟩
  rw [← hq] at HM hk hq1 hd ⊢
  have HMD := Lib.hid (fun W (hW : Below w.heap.size w W) => heldDiskS_any D m d q B W (hd.below (hW.mono hB)) (Nat.le_trans hB hW.size) hq1 (by omega))
  have HB := Lib.hid hb1
  have KB := Lib.hid kb
  have hq0 : (0 : Int) ≤ (q : Int) := by omega
  have hq2 : (0 : Int) ≤ ((q + 2 * m : Nat) : Int) := by omega
  obtain ⟨z, hz⟩ : ∃ z, z = ((q + 2 * m : Nat) : Int) := ⟨_, rfl⟩
  rw [← hz] at HMD hq2 ⊢
  clear hz hq h hd hb1 kb hn
  go_enter Try.func22, Try.ntmps22
  go_wp2_with fail
  refine HM.out.mono ?_
  rintro e w1 ⟨rfl, hb2⟩
  have k1 := (hb2.block _ (lt_blk KB.out)).trans KB.out
  have b3 := cell_blk (i := 3) k1 rfl
  have l9 := lt_blk k1
  have HB1 := Lib.hid (HB.out.trans (hb2.mono HB.out.size))
  clear hb2 k1
  go_wp2_with fail
  refine (HMD.out _ HB1.out).mono ?_
  rintro e w2 ⟨rfl, hb3⟩
  have HB2 := Lib.hid (HB1.out.trans (hb3.mono HB1.out.size))
  clear hb3 b3
  go_wp2
  go_ret
  exact ⟨rfl, HB2.out⟩
/-! ### What the walks of exact laws share -/
theorem eqHouse_own {w : World} {lo1 hi1 lo2 hi2 c1 c2 d1 d2 n m : Nat} {C1 C2 E1 E2 : Option Addr} {gs1 gs2 : List RH} {vs : List RD} {ds : List DK} (tm ld : Int) (o1 : OwnH w lo1 hi1 C1 c1 gs1 E1 d1 ds) (o2 : OwnH w lo2 hi2 C2 c2 gs2 E2 d2 ds) (hd1 : gs1.map rdat = vs) (hd2 : gs2.map rdat = vs) (hv : vs.length = n) (hmd : ds.length = m) (h1 : hi1 ≤ w.heap.size) (h2 : hi2 ≤ w.heap.size) (hs : RpSmall vs) (hdl : m ≤ 1048576) :
    Calls Try.prog 20 #[.agg #[.slice C1 n c1, .int .i64 tm, .int .i64 ld, .slice E1 m d1], .agg #[.slice C2 n c2, .int .i64 tm, .int .i64 ld, .slice E2 m d2]] w fun e w' => e = .returned (.bool true) ∧ Below w.heap.size w w' :=
  eqHouse_same C1 C2 E1 E2 n c1 c2 m d1 d2 tm ld gs1 gs2 ds w.heap.size w (glen hd1 hv) (hd2.trans hd1.symm) (o1.rows.mono h1) (o2.rows.mono h2) (gsmall hd1 hs) hmd (o1.dks.mono h1) (o2.dks.mono h2) hdl (Nat.le_refl _)
end Go.Proofs.Ytkhndofplebcaaa.Hs
