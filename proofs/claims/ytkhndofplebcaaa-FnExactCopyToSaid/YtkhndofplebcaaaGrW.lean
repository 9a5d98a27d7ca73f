/-
  What the walks of exact laws over groups share.
-/
import Derived.Test.YtkhndofplebcaaaGrCt
import Derived.Test.YtkhndofplebcaaaBel
namespace Go.Proofs.Ytkhndofplebcaaa.Gr
open Go.RowKit CM
set_option linter.unusedVariables false
set_option linter.unusedSimpArgs false

theorem glen {gs : List RH} {vs : List RD} {n : Nat} (hd : gs.map rdat = vs) (hv : vs.length = n) : gs.length = n := by rw [← hv, ← hd, List.length_map]
theorem gsmall {gs : List RH} {vs : List RD} (hd : gs.map rdat = vs) (h : RpSmall vs) : RpSmall (gs.map rdat) := by rw [hd]; exact h
theorem ToGPost_un (hs : List RH) (n : Nat) (tm ld : Int) (w : World) : ToGPost hs n tm ld w = fun e w' => ∃ (g : Nat) (gs : List RH), e = .returned (.agg #[.slice (some ⟨g, 0, none⟩) n n, .int .i64 tm, .int .i64 ld]) ∧ gs.map rdat = hs.map rdat ∧ OwnK KR w' w.heap.size w'.heap.size (some ⟨g, 0, none⟩) n gs ∧ Below w.heap.size w w' := rfl
theorem below_d0 {w w1 : World} (h : Below w.drew.heap.size w.drew w1) : Below w.heap.size w w1 := ⟨h.1, h.2, h.3, h.4, fun k hk => h.5 k hk⟩
theorem eqGroup_own {w : World} {lo1 hi1 lo2 hi2 d1 d2 n : Nat} {C1 C2 : Option Addr} {gs1 gs2 : List RH} {vs : List RD} (tm ld : Int) (o1 : OwnK KR w lo1 hi1 C1 d1 gs1) (o2 : OwnK KR w lo2 hi2 C2 d2 gs2) (hd1 : gs1.map rdat = vs) (hd2 : gs2.map rdat = vs) (hv : vs.length = n) (h1 : hi1 ≤ w.heap.size) (h2 : hi2 ≤ w.heap.size) (hs : RpSmall vs) :
    Calls Try.prog 29 #[.agg #[.slice C1 n d1, .int .i64 tm, .int .i64 ld], .agg #[.slice C2 n d2, .int .i64 tm, .int .i64 ld]] w fun e w' => e = .returned (.bool true) ∧ Below w.heap.size w w' :=
  eqGroup_same C1 C2 n d1 d2 tm ld gs1 gs2 w.heap.size w (glen hd1 hv) (hd2.trans hd1.symm) (o1.rows.mono h1) (o2.rows.mono h2) (gsmall hd1 hs) (Nat.le_refl _)

def szD (d : ED) : Nat := szSs d.rs + szWs d.ws
def lgSz (l : List ED) : Nat := l.length + (l.map szD).sum
def rpSz (rs : List RD) : Nat := rs.length + (rs.map fun r => lgSz r.log).sum
theorem lgSz_map (es : List EH) : szAll szE es = lgSz (es.map EH.d) := by
  unfold szAll lgSz
  rw [List.length_map, List.map_map]
  rfl
theorem rpSz_map (hs : List RH) : szAll szR hs = rpSz (hs.map rdat) := by
  unfold szAll rpSz
  rw [List.length_map, List.map_map]
  congr 2
  refine List.map_congr_left fun r _ => ?_
  show szAll szE r.es = lgSz (r.es.map EH.d)
  exact lgSz_map r.es
theorem aftG_small {hs : List RH} (h : szAll szR hs ≤ 1048576) : rpSz (hs.map rdat) ≤ 1048576 := by rw [← rpSz_map]; exact h
theorem aftE_le (k : Nat) (gs : List EH) : aft nxE k gs ≤ k + 6 * lgSz (gs.map EH.d) := by
  rw [← lgSz_map]
  exact aft_sz (sz := szE) (C := 6) nxE_le k gs
theorem aftR_le (k : Nat) (gs : List RH) : aft nxR k gs ≤ k + 6 * rpSz (gs.map rdat) := by
  rw [← rpSz_map]
  exact aft_sz (sz := szR) (C := 6) nxR_le k gs
theorem markE_ok {gs : List EH} {l : List ED} (hd : gs.map EH.d = l) (h : lgSz l ≤ 100000000) : aft nxE 1 gs ≤ 1000000000 := by
  have := aftE_le 1 gs; rw [hd] at this; omega
theorem markR_ok {gs : List RH} {l : List RD} (hd : gs.map rdat = l) (h : rpSz l ≤ 100000000) : aft nxR 1 gs ≤ 1000000000 := by
  have := aftR_le 1 gs; rw [hd] at this; omega
theorem lgSmall_sz {l : List ED} (h : lgSz l ≤ 1048576) : LgSmall l := by
  unfold lgSz at h
  refine ⟨by omega, fun d hd => ?_⟩
  have := le_sum szD l d hd
  have e : szD d = szSs d.rs + szWs d.ws := rfl
  exact ⟨ssmall_of (by omega), wsmall_of (by omega)⟩
theorem rpSmall_sz {l : List RD} (h : rpSz l ≤ 1048576) : RpSmall l := by
  unfold rpSz at h
  refine ⟨by omega, fun r hr => lgSmall_sz ?_⟩
  have := le_sum (fun r : RD => lgSz r.log) l r hr
  omega
theorem lgSz_take (l : List ED) (k : Nat) : lgSz (l.take k) ≤ lgSz l := by
  unfold lgSz
  have h1 := sum_take_le szD l k
  have h2 : (l.take k).length ≤ l.length := by rw [List.length_take]; omega
  omega
theorem lgSz_mem {rs : List RD} {r : RD} (h : r ∈ rs) : lgSz r.log ≤ rpSz rs := by
  have := le_sum (fun r : RD => lgSz r.log) rs r h
  unfold rpSz; omega
theorem elen {gs : List EH} {l : List ED} {n : Nat} (hd : gs.map EH.d = l) (hl : l.length = n) : gs.length = n := by rw [← hl, ← hd, List.length_map]
theorem eqEntryS_own {w : World} {lo1 hi1 lo2 hi2 d1 d2 n : Nat} {C1 C2 : Option Addr} {gs1 gs2 : List EH} {l : List ED} (o1 : OwnK KE w lo1 hi1 C1 d1 gs1) (o2 : OwnK KE w lo2 hi2 C2 d2 gs2) (hd1 : gs1.map EH.d = l) (hd2 : gs2.map EH.d = l) (hl : l.length = n) (h1 : hi1 ≤ w.heap.size) (h2 : hi2 ≤ w.heap.size) (hs : LgSmall l) :
    Calls Try.prog 153 #[.slice C1 n d1, .slice C2 n d2] w fun e w' => e = .returned (.bool true) ∧ Below w.heap.size w w' :=
  eqEntryS_same C1 C2 n d1 d2 gs1 gs2 w.heap.size w (elen hd1 hl) (hd2.trans hd1.symm) (o1.rows.mono h1) (o2.rows.mono h2) (Nat.le_refl _) (by rw [hd1]; exact hs)

end Go.Proofs.Ytkhndofplebcaaa.Gr
