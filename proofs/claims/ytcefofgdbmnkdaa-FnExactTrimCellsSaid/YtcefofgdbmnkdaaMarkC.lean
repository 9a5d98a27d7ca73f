/-
  Contracts for the laws' helpers markCellS and heldCellS: owned cells are written over, and found again.
-/
import Derived.Test.YtcefofgdbmnkdaaHeld
namespace Go.Proofs.Ytcefofgdbmnkdaa
open Go.RowKit
set_option linter.unusedVariables false

/-- What the laws write over cells, from the number k on: the blocks stay. -/
def markH : Nat → List (ByteArray × Option Addr × Nat × List (Int × ByteArray × Bool)) → List (ByteArray × Option Addr × Nat × List (Int × ByteArray × Bool))
  | _, [] => []
  | k, h :: t => (mark k, h.2.1, h.2.2.1, mVers (k + 1) h.2.2.2.length) :: markH (k + 1 + 3 * h.2.2.2.length) t
def afterH : Nat → List (ByteArray × Option Addr × Nat × List (Int × ByteArray × Bool)) → Nat
  | k, [] => k
  | k, h :: t => afterH (k + 1 + 3 * h.2.2.2.length) t
theorem markH_snoc (k : Nat) (ds : List (ByteArray × Option Addr × Nat × List (Int × ByteArray × Bool))) (h : (ByteArray × Option Addr × Nat × List (Int × ByteArray × Bool))) : markH k (ds ++ [h]) = markH k ds ++ [(mark (afterH k ds), h.2.1, h.2.2.1, mVers (afterH k ds + 1) h.2.2.2.length)] := by
  induction ds generalizing k with
  | nil => rfl
  | cons a t ih => simp [markH, afterH, ih]
theorem afterH_snoc (k : Nat) (ds : List (ByteArray × Option Addr × Nat × List (Int × ByteArray × Bool))) (h : (ByteArray × Option Addr × Nat × List (Int × ByteArray × Bool))) : afterH k (ds ++ [h]) = afterH k ds + 1 + 3 * h.2.2.2.length := by
  induction ds generalizing k with
  | nil => rfl
  | cons a t ih => simp [afterH, ih]
theorem afterH_up (k : Nat) (ds : List (ByteArray × Option Addr × Nat × List (Int × ByteArray × Bool))) : k ≤ afterH k ds := by
  induction ds generalizing k with
  | nil => exact Nat.le_refl _
  | cons a t ih => have := ih (k + 1 + 3 * a.2.2.2.length); simp only [afterH]; omega
theorem afterH_len (k : Nat) (ds : List (ByteArray × Option Addr × Nat × List (Int × ByteArray × Bool))) : k + ds.length ≤ afterH k ds := by
  induction ds generalizing k with
  | nil => exact Nat.le_refl _
  | cons a t ih => have := ih (k + 1 + 3 * a.2.2.2.length); simp only [afterH, List.length_cons]; omega
theorem afterH_append (k : Nat) (ds rs : List (ByteArray × Option Addr × Nat × List (Int × ByteArray × Bool))) : afterH k (ds ++ rs) = afterH (afterH k ds) rs := by
  induction ds generalizing k with
  | nil => rfl
  | cons a t ih => simp [afterH, ih]
theorem markH_len (k : Nat) (ds : List (ByteArray × Option Addr × Nat × List (Int × ByteArray × Bool))) : (markH k ds).length = ds.length := by
  induction ds generalizing k with
  | nil => rfl
  | cons a t ih => simp [markH, ih]
/-- How far the numbers go. -/
theorem afterH_sz (k : Nat) (hs : List (ByteArray × Option Addr × Nat × List (Int × ByteArray × Bool))) : afterH k hs ≤ k + 3 * szHs hs := by
  induction hs generalizing k with
  | nil => simp [afterH]
  | cons a t ih =>
    have := ih (k + 1 + 3 * a.2.2.2.length)
    simp only [afterH]
    unfold szHs at this ⊢
    simp only [List.map_cons, List.sum_cons, List.length_cons]
    have h2 : a.2.2.2.length ≤ szVs a.2.2.2 := by unfold szVs; omega
    omega
theorem afterH_few (k M : Nat) (hs : List (ByteArray × Option Addr × Nat × List (Int × ByteArray × Bool))) (h : ∀ x ∈ hs, x.2.2.2.length ≤ M) : afterH k hs ≤ k + hs.length * (1 + 3 * M) := by
  induction hs generalizing k with
  | nil => simp [afterH]
  | cons a t ih =>
    have := ih (k + 1 + 3 * a.2.2.2.length) (fun x hx => h x (List.mem_cons_of_mem _ hx))
    have h1 := h a (by simp)
    simp only [afterH, List.length_cons, Nat.add_mul, Nat.one_mul]
    omega

section
variable {w w' : World} {lo hi cap : Nat} {A : Option Addr} {ms rs hs : List (ByteArray × Option Addr × Nat × List (Int × ByteArray × Bool))}
/-- Only the blocks of the versions matter. -/
theorem VerOwn.congr {hs' : List (ByteArray × Option Addr × Nat × List (Int × ByteArray × Bool))} (h : VerOwn w lo hi hs) (he : hs'.map Prod.snd = hs.map Prod.snd) : VerOwn w lo hi hs' := by
  have e : ∀ l : List (ByteArray × Option Addr × Nat × List (Int × ByteArray × Bool)), VerOwn w lo hi l ↔ (∀ y ∈ l.map Prod.snd, Own w lo hi 83 3 y.1 y.2.1 (y.2.2.map verCs)) ∧ (l.map Prod.snd).Pairwise fun a b => ∀ x y, a.1 = some x → b.1 = some y → x.block ≠ y.block := fun l => by
    unfold VerOwn
    rw [List.pairwise_map]
    simp only [List.mem_map, forall_exists_index, and_imp, forall_apply_eq_imp_iff₂]
  rw [e, he, ← e]
  exact h
theorem OwnC.keyAt {g : Nat} {x : (ByteArray × Option Addr × Nat × List (Int × ByteArray × Bool))} (h : OwnC w lo hi (some ⟨g, 0, none⟩) cap (ms ++ x :: rs)) (s : ByteArray) (m : Nat) (hm : m = ms.length * 2) : OwnC (w.setCell ⟨g, m, none⟩ (.string s)) lo hi (some ⟨g, 0, none⟩) cap (ms ++ (s, x.2) :: rs) := by
  obtain ⟨h1, h2⟩ := h
  obtain ⟨g', cur, hA, _, _, hh, _⟩ := h1.form (by simp; omega)
  injection hA with hA
  injection hA with hg
  subst hg
  refine ⟨?_, (h2.storeT (p := ⟨g, m, none⟩) hh (by decide) _).congr (by simp)⟩
  have h3 := h1.put ms.length 0 (by simp) (by omega) (by simp [cellCs]) (.string s)
  rw [Nat.add_zero, ← hm] at h3
  have e : ((ms ++ x :: rs).map cellCs).set ms.length ((((ms ++ x :: rs).map cellCs)[ms.length]'(by simp)).set 0 (.string s)) = (ms ++ (s, x.2) :: rs).map cellCs := by
    simp [List.map_append, cellCs]
  rw [e] at h3
  exact h3
theorem OwnC.versAt {s : ByteArray} {a : Option Addr} {c : Nat} {vs vs' : List (Int × ByteArray × Bool)} (h : OwnC w lo hi A cap (ms ++ (s, a, c, vs) :: rs)) (hm : MidA a w w') (ho : Own w' lo hi 83 3 a c (vs'.map verCs)) (hl : vs'.length = vs.length) : OwnC w' lo hi A cap (ms ++ (s, a, c, vs') :: rs) := by
  obtain ⟨h1, h2, h3⟩ := h
  have hv := h2 (s, a, c, vs) (by simp)
  rw [List.pairwise_append, List.pairwise_cons] at h3
  obtain ⟨p1, ⟨p2, p3⟩, p4⟩ := h3
  refine ⟨?_, fun y hy => ?_, ?_⟩
  · have e : (ms ++ (s, a, c, vs') :: rs).map cellCs = (ms ++ (s, a, c, vs) :: rs).map cellCs := by simp [cellCs, hl]
    rw [e]
    refine h1.midA hm fun x y hx hy e => ?_
    obtain ⟨_, _, c1, hc1⟩ := hv.block x hx
    obtain ⟨_, _, c2, hc2⟩ := h1.block y hy
    rw [e, hc2] at hc1
    simp at hc1
  · rcases List.mem_append.1 hy with hy | hy
    · exact (h2 y (by simp [hy])).midA hm fun p q hp hq e => p4 y hy (s, a, c, vs) (by simp) q p hq hp e.symm
    · rcases List.mem_cons.1 hy with rfl | hy
      · exact ho
      · exact (h2 y (by simp [hy])).midA hm fun p q hp hq e => p2 y hy p q hp hq e
  · rw [List.pairwise_append, List.pairwise_cons]
    refine ⟨p1, ⟨fun y hy => p2 y hy, p3⟩, fun x hx y hy => ?_⟩
    rcases List.mem_cons.1 hy with rfl | hy
    · exact p4 x hx (s, a, c, vs) (by simp)
    · exact p4 x hx y (by simp [hy])
end

set_option maxRecDepth 100000 in
set_option maxHeartbeats 1000000 in
theorem markCellS_any (A : Option Addr) (n cap k lo hi : Nat) (hs : List (ByteArray × Option Addr × Nat × List (Int × ByteArray × Bool))) (w : World) (hn : hs.length = n) (h : OwnC w lo hi A cap hs) (hhi : hi ≤ w.heap.size) (hk1 : 1 ≤ k) (hk : afterH k hs ≤ 1000000000) :
    Calls Try.prog 50 #[.slice A n cap, .int .i64 (k : Int)] w fun e w' => e = .returned (.int .i64 ((afterH k hs : Nat) : Int)) ∧ OwnC w' lo hi A cap (markH k hs) ∧ Mid lo hi w w' := by
  have HN := Lib.hid hn
  have HO := Lib.hid h
  clear h
  go_enter Try.func50, Try.ntmps50
  go_wp2
  go_loopw [1, 5] (fun x i wr => ∃ (ds rs : List (ByteArray × Option Addr × Nat × List (Int × ByteArray × Bool))) (q : Nat), Hid (hs = ds ++ rs) ∧ Hid (q = afterH k ds) ∧ 1 ≤ q ∧ x = .int .i64 (q : Int) ∧ i = .int .i64 ds.length ∧ Hid (OwnC wr lo hi A cap (markH k ds ++ rs)) ∧ Hid (Mid lo hi w wr) ∧ hi ≤ wr.heap.size) (fun _ i _ => n - (intOf i).toNat)
  case atStart => exact ⟨[], hs, k, rfl, rfl, hk1, rfl, rfl, HO, Mid.refl _ _ _, hhi⟩
  case round =>
    clear HO
    obtain ⟨ds, rs, q, HS, HQ, hq1, rfl, rfl, HO, HM, hhr⟩ := hrel
    have hlen : ds.length + rs.length = n := by rw [← HN.out, HS.out, List.length_append]
    have HML := Lib.hid (markH_len k ds)
    obtain ⟨j, hj⟩ : ∃ j, j = ds.length := ⟨_, rfl⟩
    have HJ := Lib.hid hj
    rw [← hj] at hlen ⊢
    cases rs with
    | cons x t =>
      obtain ⟨s0, a, c, vs⟩ := x
      have haf : q + 1 + 3 * vs.length ≤ 1000000000 := by
        have h1 : afterH k hs = afterH (q + 1 + 3 * vs.length) t := by rw [HS.out, afterH_append, ← HQ.out]; rfl
        have h2 := afterH_up (q + 1 + 3 * vs.length) t
        omega
      have hlt : j < n := by simp at hlen; omega
      have hjq : j ≤ q := by rw [HQ.out, HJ.out]; exact Nat.le_trans (Nat.le_add_left _ _) (afterH_len k ds)
      have HC := Lib.hid (fun W => mark_any q W hq1 (by omega))
      obtain ⟨g, cur, rfl, hg1, hg2, hh, hc1, hc2⟩ := HO.out.1.form (by simp; omega)
      have hjc : j < cap := by
        have h1 := hc1
        simp only [List.length_map, List.length_append, List.length_cons, HML.out] at h1
        rw [← HJ.out] at h1
        omega
      have HG := Lib.hid (show lo ≤ g ∧ g < hi from ⟨hg1, hg2⟩)
      have hj0 : (0 : Int) ≤ (j : Int) := by omega
      have hj1 : (j : Int) < (n : Int) := by omega
      clear hh hc1 hc2 hg1 hg2 hj
      go_wp2_with fail
      refine (HC.out _).mono ?_
      rintro e w1 ⟨rfl, hb1⟩
      have ho1 := HO.out.below (hb1.mono hhr)
      have hs1 := Nat.le_trans hhr hb1.size
      obtain ⟨g', cur1, hA, _, _, hh1, _, hz1⟩ := ho1.1.form (by simp; omega)
      injection hA with hA
      injection hA with hgg
      subst hgg
      obtain ⟨v0, hv0⟩ : ∃ v, w1.cell? ⟨g, j * 2, none⟩ = some v := ⟨cur1[j * 2]'(by omega), by rw [cell_of_row w1 g _ cur1 _ (0, 0) hh1]; exact Array.getElem?_eq_getElem (by omega)⟩
      have hfr0 : w1.frozen? ⟨g, j * 2, none⟩ = false := by simp [World.frozen?, hh1]
      have ho2 := ho1.keyAt (mark q) (j * 2) (by rw [HML.out, HJ.out])
      have HM2 := Lib.hid ((HM.out.trans (Below.mid hb1)).set (p := ⟨g, j * 2, none⟩) HG.out (.string (mark q)))
      have hh2 : hi ≤ (w1.setCell ⟨g, j * 2, none⟩ (.string (mark q))).heap.size := by simpa [World.setCell] using hs1
      have hcell : w1.cell? ⟨g, j * 2 + 1, none⟩ = some (.slice a vs.length c) := by
        obtain ⟨b', o', hA', _, hcs⟩ := ho1.cells.get (by simp; omega)
        injection hA' with hA'
        injection hA' with hb' ho'
        subst hb' ho'
        have h3 := (hcs j (by simp [HML.out, ← HJ.out])).2
        have e : (markH k ds ++ (s0, a, c, vs) :: t)[j]'(by simp [HML.out, ← HJ.out]) = (s0, a, c, vs) := by
          rw [List.getElem_append_right (by rw [HML.out, ← HJ.out]; exact Nat.le_refl _)]
          simp [HML.out, HJ.out]
        rw [e] at h3
        simpa using h3
      obtain ⟨w2, hw2⟩ : ∃ w2, w2 = w1.setCell ⟨g, j * 2, none⟩ (.string (mark q)) := ⟨_, rfl⟩
      have HV := Lib.hid (markVerS_any a vs.length c (q + 1) lo hi vs w2 rfl (by rw [hw2]; exact ho2.2.1 (mark q, a, c, vs) (by simp)) (by omega) haf)
      rw [show ((q + 1 : Nat) : Int) = (q : Int) + 1 from by omega] at HV
      rw [← hw2] at ho2 HM2 hh2
      have HO2 := Lib.hid ho2
      have HW2 := Lib.hid hw2
      clear ho1 ho2 hh1 hz1 hb1 hs1 hw2
      go_wp2_with fail
      rw [← HW2.out]
      refine HV.out.mono ?_
      rintro e w3 ⟨rfl, ho3, hm3⟩
      have HO3 := Lib.hid (HO2.out.versAt hm3 ho3 (mVers_len _ _))
      have HM3 := Lib.hid (HM2.out.trans (hm3.mid (lo := lo) (hi := hi) (fun x hx => by have := (HO2.out.2.1 (mark q, a, c, vs) (by simp)).block x hx; exact ⟨this.1, this.2.1⟩)))
      have hh3 := Nat.le_trans hh2 hm3.2.2.2.1
      clear ho3 hm3
      go_wp2
      go_roundw
      case rel =>
        refine ⟨ds ++ [(s0, a, c, vs)], t, q + 1 + 3 * vs.length, ?_, ?_, by omega, rfl, ?_, ?_, HM3, hh3⟩
        · show _ = _; rw [HS.out]; simp
        · show _ = _; rw [afterH_snoc, ← HQ.out]
        · rw [List.length_append, ← HJ.out]; go_num
        · show OwnC _ _ _ _ _ _
          rw [markH_snoc, ← HQ.out, List.append_assoc]
          exact HO3.out
      case measure => simp [intOf]; omega
    | nil =>
      have hjn : j = n := by simpa using hlen
      subst hjn
      have HR := Lib.hid (show q = afterH k hs ∧ OwnC wr lo hi A cap (markH k hs) from ⟨by rw [HQ.out, HS.out, List.append_nil], by have := HO.out; rw [HS.out, List.append_nil]; rwa [List.append_nil] at this⟩)
      clear hj
      go_wp2
      go_ret
      exact ⟨by rw [HR.out.1]; rfl, HR.out.2, HM.out⟩

theorem markH_append (k : Nat) (ds rs : List (ByteArray × Option Addr × Nat × List (Int × ByteArray × Bool))) : markH k (ds ++ rs) = markH k ds ++ markH (afterH k ds) rs := by
  induction ds generalizing k with
  | nil => rfl
  | cons a t ih => simp [markH, afterH, ih]
theorem markH_at (k : Nat) (ds t : List (ByteArray × Option Addr × Nat × List (Int × ByteArray × Bool))) (x : (ByteArray × Option Addr × Nat × List (Int × ByteArray × Bool))) (j : Nat) (hj : j = ds.length) (h : j < (markH k (ds ++ x :: t)).length) : (markH k (ds ++ x :: t))[j] = (mark (afterH k ds), x.2.1, x.2.2.1, mVers (afterH k ds + 1) x.2.2.2.length) := by
  subst hj
  have e : markH k (ds ++ x :: t) = markH k ds ++ (mark (afterH k ds), x.2.1, x.2.2.1, mVers (afterH k ds + 1) x.2.2.2.length) :: markH (afterH k ds + 1 + 3 * x.2.2.2.length) t := by rw [markH_append]; rfl
  simp only [e]
  rw [List.getElem_append_right (by rw [markH_len]; exact Nat.le_refl _)]
  simp [markH_len]

set_option maxRecDepth 100000 in
set_option maxHeartbeats 1000000 in
theorem heldCellS_any (A : Option Addr) (n c k B : Nat) (hs : List (ByteArray × Option Addr × Nat × List (Int × ByteArray × Bool))) (w : World) (hn : hs.length = n) (h : CellsB w B A (markH k hs)) (hB : B ≤ w.heap.size) (hk1 : 1 ≤ k) (hk : afterH k hs ≤ 1000000000) :
    Calls Try.prog 52 #[.slice A n c, .int .i64 (k : Int)] w fun e w' => e = .returned (.int .i64 ((afterH k hs : Nat) : Int)) ∧ Below w.heap.size w w' := by
  have HN := Lib.hid hn
  have HC0 := Lib.hid h
  clear h
  go_enter Try.func52, Try.ntmps52
  go_wp2
  go_loopw [1, 5] (fun x i wr => ∃ (ds rs : List (ByteArray × Option Addr × Nat × List (Int × ByteArray × Bool))) (q : Nat), Hid (hs = ds ++ rs) ∧ Hid (q = afterH k ds) ∧ 1 ≤ q ∧ x = .int .i64 (q : Int) ∧ i = .int .i64 ds.length ∧ Below w.heap.size w wr) (fun _ i _ => n - (intOf i).toNat)
  case atStart => exact ⟨[], hs, k, rfl, rfl, hk1, rfl, rfl, Below.refl _ _⟩
  case round =>
    obtain ⟨ds, rs, q, HS, HQ, hq1, rfl, rfl, hb⟩ := hrel
    have hlen : ds.length + rs.length = n := by rw [← HN.out, HS.out, List.length_append]
    obtain ⟨j, hj⟩ : ∃ j, j = ds.length := ⟨_, rfl⟩
    have HJ := Lib.hid hj
    rw [← hj] at hlen ⊢
    cases rs with
    | cons x t =>
      obtain ⟨s0, a, ca, vs⟩ := x
      have haf : q + 1 + 3 * vs.length ≤ 1000000000 := by
        have h1 : afterH k hs = afterH (q + 1 + 3 * vs.length) t := by rw [HS.out, afterH_append, ← HQ.out]; rfl
        have h2 := afterH_up (q + 1 + 3 * vs.length) t
        omega
      have hlt : j < n := by simp at hlen; omega
      have hjq : j ≤ q := by rw [HQ.out, HJ.out]; exact Nat.le_trans (Nat.le_add_left _ _) (afterH_len k ds)
      have hlm : j < (markH k hs).length := by rw [markH_len, HN.out]; exact hlt
      obtain ⟨b, off, rfl, hbB, hc⟩ := HC0.out.get (by omega)
      obtain ⟨hc0, hc1⟩ := hc j hlm
      have hv := HC0.out.vers j hlm
      have e : (markH k hs)[j]'hlm = (mark q, a, ca, mVers (q + 1) vs.length) := by
        have h1 := markH_at k ds t (s0, a, ca, vs) j hj (by rw [← HS.out]; exact hlm)
        rw [← HQ.out] at h1
        simp only [← HS.out] at h1
        exact h1
      rw [e] at hc0 hc1 hv
      simp only [mVers_len] at hc0 hc1 hv
      have HC := Lib.hid (fun W => mark_any q W hq1 (by omega))
      obtain ⟨tx, ht⟩ : ∃ t, t = mark q := ⟨_, rfl⟩
      rw [← ht] at hc0 HC
      have hbr : b < wr.heap.size := Nat.lt_of_lt_of_le hbB (Nat.le_trans hB hb.size)
      have c0 := (hb.cell (p := ⟨b, off + j * 2, none⟩) (Nat.lt_of_lt_of_le hbB hB)).trans hc0
      have c1 := (hb.cell (p := ⟨b, off + j * 2 + 1, none⟩) (Nat.lt_of_lt_of_le hbB hB)).trans hc1
      have y0 := bel_cell c0 hbr
      have y1 := bel_cell c1 hbr
      have hj0 : (0 : Int) ≤ (j : Int) := by omega
      have hj1 : (j : Int) < (n : Int) := by omega
      have HB := Lib.hid hb
      have HV := Lib.hid (fun W (hW : Below w.heap.size w W) => heldVerS_any a vs.length ca (q + 1) B W (hv.below (hW.mono hB)) (Nat.le_trans hB hW.size) (by omega) haf)
      rw [show ((q + 1 : Nat) : Int) = (q : Int) + 1 from by omega] at HV
      clear ht hc hc0 hc1 c0 c1 hb hv e hlm hj
      go_wp2_with fail
      refine bel_region (by kernel_rfl) (by kernel_rfl) ?_
      repeat (go_big_quiet_step ((go_at_call 92; exact bel_call (HC.out _))))
      refine wpQuiet_nil ?_
      intro p
      have HB4 := Lib.hid (HB.out.trans (p.below.mono HB.out.size))
      go_wp2_with fail
      refine (HV.out _ HB4.out).mono ?_
      rintro e w5 ⟨rfl, hb5⟩
      have HB5 := Lib.hid (HB4.out.trans (hb5.mono HB4.out.size))
      clear hb5
      go_wp2
      go_roundw
      case rel =>
        refine ⟨ds ++ [(s0, a, ca, vs)], t, q + 1 + 3 * vs.length, ?_, ?_, by omega, rfl, ?_, HB5.out⟩
        · show _ = _; rw [HS.out]; simp
        · show _ = _; rw [afterH_snoc, ← HQ.out]
        · rw [List.length_append, ← HJ.out]; go_num
      case measure => simp [intOf]; omega
    | nil =>
      have hjn : j = n := by simpa using hlen
      subst hjn
      have HR := Lib.hid (show q = afterH k hs from by rw [HQ.out, HS.out, List.append_nil])
      clear hj
      go_wp2
      go_ret
      exact ⟨by rw [HR.out]; rfl, hb⟩
end Go.Proofs.Ytcefofgdbmnkdaa
