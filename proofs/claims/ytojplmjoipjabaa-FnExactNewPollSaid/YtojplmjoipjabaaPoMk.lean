/-
  Contracts for the laws' helpers that write over polls that are owned (markVoterS, markWonS, markPoll) and find them again (heldVoterS, heldWonS, heldPoll).
-/
import Derived.Test.YtojplmjoipjabaaPoMem
import Derived.Test.YtojplmjoipjabaaNtMk2
namespace Go.Proofs.Ytojplmjoipjabaa.Po
open Go.RowKit Nt
set_option linter.unusedVariables false
set_option linter.unusedSimpArgs false

def thr (z : Int) : Bool := decide (z % 3 = 0)
/-- What the laws write over voters, from the number k on: the blocks stay. -/
def markV : Nat → List ((Bool × Int × Int × Bool) × Option Addr × Nat × List Int) → List ((Bool × Int × Int × Bool) × Option Addr × Nat × List Int)
  | _, [] => []
  | k, h :: t => ((thr (k : Int), (k : Int) + 1, (k : Int) + 1 + 1, thr ((k + 3 + h.2.2.2.length : Nat) : Int)), h.2.1, h.2.2.1, mInts (k + 3) h.2.2.2.length) :: markV (k + 4 + h.2.2.2.length) t
def afterV : Nat → List ((Bool × Int × Int × Bool) × Option Addr × Nat × List Int) → Nat
  | k, [] => k
  | k, h :: t => afterV (k + 4 + h.2.2.2.length) t
theorem markV_snoc (k : Nat) (ds : List ((Bool × Int × Int × Bool) × Option Addr × Nat × List Int)) (h : ((Bool × Int × Int × Bool) × Option Addr × Nat × List Int)) : markV k (ds ++ [h]) = markV k ds ++ [((thr (afterV k ds : Int), (afterV k ds : Int) + 1, (afterV k ds : Int) + 1 + 1, thr ((afterV k ds + 3 + h.2.2.2.length : Nat) : Int)), h.2.1, h.2.2.1, mInts (afterV k ds + 3) h.2.2.2.length)] := by
  induction ds generalizing k with
  | nil => rfl
  | cons a t ih => simp [markV, afterV, ih]
theorem afterV_snoc (k : Nat) (ds : List ((Bool × Int × Int × Bool) × Option Addr × Nat × List Int)) (h : ((Bool × Int × Int × Bool) × Option Addr × Nat × List Int)) : afterV k (ds ++ [h]) = afterV k ds + 4 + h.2.2.2.length := by
  induction ds generalizing k with
  | nil => rfl
  | cons a t ih => simp [afterV, ih]
theorem afterV_up (k : Nat) (ds : List ((Bool × Int × Int × Bool) × Option Addr × Nat × List Int)) : k ≤ afterV k ds := by
  induction ds generalizing k with
  | nil => exact Nat.le_refl _
  | cons a t ih => have := ih (k + 4 + a.2.2.2.length); simp only [afterV]; omega
theorem afterV_len (k : Nat) (ds : List ((Bool × Int × Int × Bool) × Option Addr × Nat × List Int)) : k + ds.length ≤ afterV k ds := by
  induction ds generalizing k with
  | nil => exact Nat.le_refl _
  | cons a t ih => have := ih (k + 4 + a.2.2.2.length); simp only [afterV, List.length_cons]; omega
theorem afterV_append (k : Nat) (ds rs : List ((Bool × Int × Int × Bool) × Option Addr × Nat × List Int)) : afterV k (ds ++ rs) = afterV (afterV k ds) rs := by
  induction ds generalizing k with
  | nil => rfl
  | cons a t ih => simp [afterV, ih]
theorem markV_append (k : Nat) (ds rs : List ((Bool × Int × Int × Bool) × Option Addr × Nat × List Int)) : markV k (ds ++ rs) = markV k ds ++ markV (afterV k ds) rs := by
  induction ds generalizing k with
  | nil => rfl
  | cons a t ih => simp [markV, afterV, ih]
theorem markV_len (k : Nat) (ds : List ((Bool × Int × Int × Bool) × Option Addr × Nat × List Int)) : (markV k ds).length = ds.length := by
  induction ds generalizing k with
  | nil => rfl
  | cons a t ih => simp [markV, ih]
/-- How far the numbers go. -/
theorem afterV_sz (k : Nat) (hs : List ((Bool × Int × Int × Bool) × Option Addr × Nat × List Int)) : afterV k hs ≤ k + 4 * szVt hs := by
  induction hs generalizing k with
  | nil => simp [afterV]
  | cons a t ih =>
    have := ih (k + 4 + a.2.2.2.length)
    simp only [afterV]
    unfold szVt at this ⊢
    simp only [List.map_cons, List.sum_cons, List.length_cons]
    omega
theorem afterV_dat (k : Nat) (hs gs : List ((Bool × Int × Int × Bool) × Option Addr × Nat × List Int)) (h : gs.map vdat = hs.map vdat) : afterV k gs = afterV k hs := by
  induction hs generalizing k gs with
  | nil => simp at h; subst h; rfl
  | cons a t ih =>
    cases gs with
    | nil => simp at h
    | cons b s =>
      simp only [List.map_cons, List.cons.injEq, vdat, Prod.mk.injEq] at h
      simp only [afterV, h.1.2]
      exact ih _ _ h.2
theorem markV_at (k : Nat) (ds t : List ((Bool × Int × Int × Bool) × Option Addr × Nat × List Int)) (x : ((Bool × Int × Int × Bool) × Option Addr × Nat × List Int)) (j : Nat) (hj : j = ds.length) (h : j < (markV k (ds ++ x :: t)).length) : (markV k (ds ++ x :: t))[j] = ((thr (afterV k ds : Int), (afterV k ds : Int) + 1, (afterV k ds : Int) + 1 + 1, thr ((afterV k ds + 3 + x.2.2.2.length : Nat) : Int)), x.2.1, x.2.2.1, mInts (afterV k ds + 3) x.2.2.2.length) := by
  subst hj
  simp only [markV_append]
  rw [List.getElem_append_right (by rw [markV_len]; exact Nat.le_refl _)]
  simp [markV_len, markV]

section
variable {w w' : World} {lo hi cap : Nat} {A : Option Addr} {ms rs hs : List ((Bool × Int × Int × Bool) × Option Addr × Nat × List Int)}
/-- One cell of a voter stored. -/
theorem OwnV.cellAt {g : Nat} {x : ((Bool × Int × Int × Bool) × Option Addr × Nat × List Int)} (h : OwnV w lo hi (some ⟨g, 0, none⟩) cap (ms ++ x :: rs)) (y : Bool × Int × Int × Bool) (i : Nat) (hi5 : i < 5) (u : Value) (hu : vtCs (y, x.2) = (vtCs x).set i u) (m : Nat) (hm : m = ms.length * 5 + i) : OwnV (w.setCell ⟨g, m, none⟩ u) lo hi (some ⟨g, 0, none⟩) cap (ms ++ (y, x.2) :: rs) := by
  obtain ⟨h1, h2⟩ := h
  obtain ⟨g', cur, hA, _, _, hh, _⟩ := h1.form (by simp; omega)
  injection hA with hA
  injection hA with hg
  subst hg
  refine ⟨?_, (h2.storeT (p := ⟨g, m, none⟩) hh (by decide) _).congr (by simp)⟩
  have h3 := h1.put ms.length i (by simp) hi5 (by simp [vtCs]) u
  rw [← hm] at h3
  have e : ((ms ++ x :: rs).map vtCs).set ms.length ((((ms ++ x :: rs).map vtCs)[ms.length]'(by simp)).set i u) = (ms ++ (y, x.2) :: rs).map vtCs := by
    simp [List.map_append, hu]
  rw [e] at h3
  exact h3
theorem OwnV.yesAt {s : Bool × Int × Int × Bool} {a : Option Addr} {c : Nat} {vs vs' : List Int} (h : OwnV w lo hi A cap (ms ++ (s, a, c, vs) :: rs)) (hm : MidA a w w') (ho : OwnI w' lo hi a c vs') (hl : vs'.length = vs.length) : OwnV w' lo hi A cap (ms ++ (s, a, c, vs') :: rs) := by
  obtain ⟨h1, h2, h3⟩ := h
  have hv := h2 (s, a, c, vs) (by simp)
  rw [List.pairwise_append, List.pairwise_cons] at h3
  obtain ⟨p1, ⟨p2, p3⟩, p4⟩ := h3
  refine ⟨?_, fun y hy => ?_, ?_⟩
  · have e : (ms ++ (s, a, c, vs') :: rs).map vtCs = (ms ++ (s, a, c, vs) :: rs).map vtCs := by simp [vtCs, hl]
    rw [e]
    refine h1.midA hm fun x y hx hy e => ?_
    obtain ⟨_, _, c1, hc1⟩ := Own.block hv x hx
    obtain ⟨_, _, c2, hc2⟩ := h1.block y hy
    rw [e, hc2] at hc1
    simp at hc1
  · rcases List.mem_append.1 hy with hy | hy
    · exact Own.midA (h2 y (by simp [hy])) hm fun p q hp hq e => p4 y hy (s, a, c, vs) (by simp) q p hq hp e.symm
    · rcases List.mem_cons.1 hy with rfl | hy
      · exact ho
      · exact Own.midA (h2 y (by simp [hy])) hm fun p q hp hq e => p2 y hy p q hp hq e
  · rw [List.pairwise_append, List.pairwise_cons]
    refine ⟨p1, ⟨fun y hy => p2 y hy, p3⟩, fun x hx y hy => ?_⟩
    rcases List.mem_cons.1 hy with rfl | hy
    · exact p4 x hx (s, a, c, vs) (by simp)
    · exact p4 x hx y (by simp [hy])
end
/-- Only the voters' block and the blocks of what they said are written. -/
def MidL (A : Option Addr) (hs : List ((Bool × Int × Int × Bool) × Option Addr × Nat × List Int)) (w w' : World) : Prop :=
  w'.os = w.os ∧ w'.tape = w.tape ∧ w'.output = w.output ∧ w.heap.size ≤ w'.heap.size ∧ ∀ b, b < w.heap.size → (∀ x, A = some x → x.block ≠ b) → (∀ h ∈ hs, ∀ x, h.2.1 = some x → x.block ≠ b) → w'.heap[b]? = w.heap[b]?
theorem MidL.refl (A : Option Addr) (hs : List ((Bool × Int × Int × Bool) × Option Addr × Nat × List Int)) (w : World) : MidL A hs w w := ⟨rfl, rfl, rfl, Nat.le_refl _, fun _ _ _ _ => rfl⟩
theorem MidL.trans {A : Option Addr} {hs : List ((Bool × Int × Int × Bool) × Option Addr × Nat × List Int)} {w w1 w2 : World} (h : MidL A hs w w1) (k : MidL A hs w1 w2) : MidL A hs w w2 :=
  ⟨k.1.trans h.1, k.2.1.trans h.2.1, k.2.2.1.trans h.2.2.1, Nat.le_trans h.2.2.2.1 k.2.2.2.1, fun b hb hx hy => (k.2.2.2.2 b (Nat.lt_of_lt_of_le hb h.2.2.2.1) hx hy).trans (h.2.2.2.2 b hb hx hy)⟩
theorem MidL.set {g : Nat} {hs : List ((Bool × Int × Int × Bool) × Option Addr × Nat × List Int)} {w w1 : World} (h : MidL (some ⟨g, 0, none⟩) hs w w1) (m : Nat) (u : Value) : MidL (some ⟨g, 0, none⟩) hs w (w1.setCell ⟨g, m, none⟩ u) :=
  h.trans ⟨rfl, rfl, rfl, by simp [World.setCell], fun b hb hx _ => Below.heap_setCell _ _ _ _ (fun e => hx _ rfl (by exact e.symm ▸ rfl))⟩
theorem MidL.of {A a : Option Addr} {hs : List ((Bool × Int × Int × Bool) × Option Addr × Nat × List Int)} {w w' : World} (h : MidA a w w') (ha : ∃ g ∈ hs, g.2.1 = a) : MidL A hs w w' :=
  ⟨h.1, h.2.1, h.2.2.1, h.2.2.2.1, fun b hb _ hy => h.2.2.2.2 b hb fun x hx => by obtain ⟨g, hg, he⟩ := ha; exact hy g hg x (he.trans hx)⟩
theorem own_midL {A C : Option Addr} {hs : List ((Bool × Int × Int × Bool) × Option Addr × Nat × List Int)} {w w' : World} {lo hi sz cap : Nat} {t : TypeId} {L : List (List Value)} (h : Own w lo hi t sz C cap L) (hm : MidL A hs w w') (h1 : ∀ x y, A = some x → C = some y → x.block ≠ y.block) (h2 : ∀ g ∈ hs, ∀ x y, g.2.1 = some x → C = some y → x.block ≠ y.block) : Own w' lo hi t sz C cap L := by
  rcases h with h | ⟨g, cur, hA, h3, h4, h5, h6⟩
  · exact .inl h
  · exact .inr ⟨g, cur, hA, h3, h4, (hm.2.2.2.2 g (lt_blk h5) (fun x hx => h1 x _ hx hA) (fun q hq x hx => h2 q hq x _ hx hA)).trans h5, h6⟩
theorem thr_ite (q : Int) : (q % 3 == 0) = thr q := rfl

set_option maxRecDepth 100000 in
set_option maxHeartbeats 2000000 in
theorem markVoterS_any (A : Option Addr) (n cap k lo hi : Nat) (hs : List ((Bool × Int × Int × Bool) × Option Addr × Nat × List Int)) (w : World) (hn : hs.length = n) (h : OwnV w lo hi A cap hs) (hhi : hi ≤ w.heap.size) (hk1 : 1 ≤ k) (hk : afterV k hs ≤ 1000000000) :
    Calls Try.prog 59 #[.slice A n cap, .int .i64 (k : Int)] w fun e w' => e = .returned (.int .i64 ((afterV k hs : Nat) : Int)) ∧ OwnV w' lo hi A cap (markV k hs) ∧ Mid lo hi w w' ∧ MidL A hs w w' := by
  have HN := Lib.hid hn
  have HO := Lib.hid h
  clear h
  go_enter Try.func59, Try.ntmps59
  go_wp2
  go_loopw [1, 5] (fun x i wr => ∃ (ds rs : List ((Bool × Int × Int × Bool) × Option Addr × Nat × List Int)) (q : Nat), Hid (hs = ds ++ rs) ∧ Hid (q = afterV k ds) ∧ 1 ≤ q ∧ x = .int .i64 (q : Int) ∧ i = .int .i64 ds.length ∧ Hid (OwnV wr lo hi A cap (markV k ds ++ rs)) ∧ Hid (Mid lo hi w wr) ∧ Hid (MidL A hs w wr) ∧ hi ≤ wr.heap.size) (fun _ i _ => n - (intOf i).toNat)
  case atStart => exact ⟨[], hs, k, rfl, rfl, hk1, rfl, rfl, HO, Mid.refl _ _ _, MidL.refl _ _ _, hhi⟩
  case round =>
    clear HO
    obtain ⟨ds, rs, q, HS, HQ, hq1, rfl, rfl, HO, HM, HML2, hhr⟩ := hrel
    have hlen : ds.length + rs.length = n := by rw [← HN.out, HS.out, List.length_append]
    have HML := Lib.hid (markV_len k ds)
    obtain ⟨j, hj⟩ : ∃ j, j = ds.length := ⟨_, rfl⟩
    have HJ := Lib.hid hj
    rw [← hj] at hlen ⊢
    cases rs with
    | cons x t =>
      obtain ⟨s0, a, c, vs⟩ := x
      have haf : q + 4 + vs.length ≤ 1000000000 := by
        have h1 : afterV k hs = afterV (q + 4 + vs.length) t := by rw [HS.out, afterV_append, ← HQ.out]; rfl
        have h2 := afterV_up (q + 4 + vs.length) t
        omega
      have hlt : j < n := by simp at hlen; omega
      have hjq : j ≤ q := by rw [HQ.out, HJ.out]; exact Nat.le_trans (Nat.le_add_left _ _) (afterV_len k ds)
      obtain ⟨g, cur, rfl, hg1, hg2, hh, hc1, hc2⟩ := HO.out.1.form (by simp; omega)
      have hjc : j < cap := by
        have h1 := hc1
        simp only [List.length_map, List.length_append, List.length_cons, HML.out] at h1
        rw [← HJ.out] at h1
        omega
      have HG := Lib.hid (show lo ≤ g ∧ g < hi from ⟨hg1, hg2⟩)
      have hj0 : (0 : Int) ≤ (j : Int) := by omega
      have hj1 : (j : Int) < (n : Int) := by omega
      have cell := fun i (hi5 : i < 5) => show ∃ v, wr.cell? ⟨g, j * 5 + i, none⟩ = some v from ⟨cur[j * 5 + i]'(by omega), by rw [cell_of_row wr g _ cur _ (0, 0) hh]; exact Array.getElem?_eq_getElem (by omega)⟩
      obtain ⟨v0, hv0⟩ := cell 0 (by omega)
      obtain ⟨v1, hv1⟩ := cell 1 (by omega)
      obtain ⟨v2, hv2⟩ := cell 2 (by omega)
      rw [Nat.add_zero] at hv0
      have hfr := fun i => show wr.frozen? ⟨g, j * 5 + i, none⟩ = false by simp [World.frozen?, hh]
      have hfr0 := hfr 0
      rw [Nat.add_zero] at hfr0
      have hfr1 := hfr 1
      have hfr2 := hfr 2
      have hcell : wr.cell? ⟨g, j * 5 + 3, none⟩ = some (.slice a vs.length c) := by
        obtain ⟨b', o', hA', _, hcs⟩ := HO.out.vots.get (by simp; omega)
        injection hA' with hA'
        injection hA' with hb' ho'
        subst hb' ho'
        have h3 := (hcs j (by simp [HML.out, ← HJ.out])).2.2.2.1
        have e : (markV k ds ++ (s0, a, c, vs) :: t)[j]'(by simp [HML.out, ← HJ.out]) = (s0, a, c, vs) := by
          rw [List.getElem_append_right (by rw [HML.out, ← HJ.out]; exact Nat.le_refl _)]
          simp [HML.out, HJ.out]
        rw [e] at h3
        simpa using h3
      have ho1 := ((HO.out.cellAt (thr (q : Int), s0.2.1, s0.2.2.1, s0.2.2.2) 0 (by omega) (.bool (thr (q : Int))) rfl (j * 5) (by rw [HML.out, HJ.out]; rfl)).cellAt (thr (q : Int), (q : Int) + 1, s0.2.2.1, s0.2.2.2) 1 (by omega) (.int .i64 ((q : Int) + 1)) rfl (j * 5 + 1) (by rw [HML.out, HJ.out])).cellAt (thr (q : Int), (q : Int) + 1, (q : Int) + 1 + 1, s0.2.2.2) 2 (by omega) (.int .i64 ((q : Int) + 1 + 1)) rfl (j * 5 + 2) (by rw [HML.out, HJ.out])
      have hm1 := ((HM.out.set (p := ⟨g, j * 5, none⟩) HG.out (.bool (thr (q : Int)))).set (p := ⟨g, j * 5 + 1, none⟩) HG.out (.int .i64 ((q : Int) + 1))).set (p := ⟨g, j * 5 + 2, none⟩) HG.out (.int .i64 ((q : Int) + 1 + 1))
      have hl1 := ((HML2.out.set (j * 5) (.bool (thr (q : Int)))).set (j * 5 + 1) (.int .i64 ((q : Int) + 1))).set (j * 5 + 2) (.int .i64 ((q : Int) + 1 + 1))
      obtain ⟨w2, hw2⟩ : ∃ w2, w2 = ((wr.setCell ⟨g, j * 5, none⟩ (.bool (thr (q : Int)))).setCell ⟨g, j * 5 + 1, none⟩ (.int .i64 ((q : Int) + 1))).setCell ⟨g, j * 5 + 2, none⟩ (.int .i64 ((q : Int) + 1 + 1)) := ⟨_, rfl⟩
      have hh2 : hi ≤ w2.heap.size := by rw [hw2]; simpa [World.setCell] using hhr
      rw [← hw2] at ho1 hm1 hl1
      have HV := Lib.hid (markIntS_any a vs.length c (q + 3) lo hi vs w2 rfl (ho1.2.1 ((thr (q : Int), (q : Int) + 1, (q : Int) + 1 + 1, s0.2.2.2), a, c, vs) (by simp)) (by omega) (by omega))
      have eq3 : ((q + 3 : Nat) : Int) = (q : Int) + 1 + 1 + 1 := by omega
      rw [eq3] at HV
      have HO2 := Lib.hid ho1
      have HM2 := Lib.hid hm1
      have HL2 := Lib.hid hl1
      have HW2 := Lib.hid hw2
      clear hh hc1 hc2 hg1 hg2 hj cell hfr ho1 hm1 hl1 hw2 eq3
      go_wp2_with fail
      rw [show ((q : Int) % 3 == 0) = thr (q : Int) from rfl, ← HW2.out]
      refine HV.out.mono ?_
      rintro e w3 ⟨rfl, ho3, hm3⟩
      have ho4 := HO2.out.yesAt hm3 ho3 (mInts_len _ _)
      have HM3 := Lib.hid (HM2.out.trans (hm3.mid (lo := lo) (hi := hi) (own_range (HO2.out.2.1 ((thr (q : Int), (q : Int) + 1, (q : Int) + 1 + 1, s0.2.2.2), a, c, vs) (by simp)))))
      have hh3 := Nat.le_trans hh2 hm3.2.2.2.1
      have HL3 := Lib.hid (HL2.out.trans (MidL.of hm3 ⟨(s0, a, c, vs), by rw [HS.out]; simp, rfl⟩))
      obtain ⟨g', cur1, hA, _, _, hh1, _, hz1⟩ := ho4.1.form (by simp; omega)
      injection hA with hA
      injection hA with hgg
      subst hgg
      obtain ⟨v4, hv4⟩ : ∃ v, w3.cell? ⟨g, j * 5 + 4, none⟩ = some v := ⟨cur1[j * 5 + 4]'(by omega), by rw [cell_of_row w3 g _ cur1 _ (0, 0) hh1]; exact Array.getElem?_eq_getElem (by omega)⟩
      have hfr4 : w3.frozen? ⟨g, j * 5 + 4, none⟩ = false := by simp [World.frozen?, hh1]
      have HO5 := Lib.hid (ho4.cellAt (thr (q : Int), (q : Int) + 1, (q : Int) + 1 + 1, thr ((q + 3 + vs.length : Nat) : Int)) 4 (by omega) (.bool (thr ((q + 3 + vs.length : Nat) : Int))) rfl (j * 5 + 4) (by rw [HML.out, HJ.out]))
      have HM5 := Lib.hid (HM3.out.set (p := ⟨g, j * 5 + 4, none⟩) HG.out (.bool (thr ((q + 3 + vs.length : Nat) : Int))))
      have HL5 := Lib.hid (HL3.out.set (j * 5 + 4) (.bool (thr ((q + 3 + vs.length : Nat) : Int))))
      obtain ⟨m, hm⟩ : ∃ m, m = q + 3 + vs.length := ⟨_, rfl⟩
      rw [← hm] at HO5 HM5 HL5 ⊢
      have hmb : m + 1 ≤ 1000000000 := by omega
      have HMM := Lib.hid hm
      clear ho3 hm3 ho4 hh1 hz1 hm hv0 hv1 hv2 hfr0 hfr1 hfr2 hcell
      go_wp2
      go_roundw
      case rel =>
        refine ⟨ds ++ [(s0, a, c, vs)], t, q + 4 + vs.length, ?_, ?_, by omega, ?_, ?_, ?_, HM5, HL5, by simpa [World.setCell] using hh3⟩
        · show _ = _; rw [HS.out]; simp
        · show _ = _; rw [afterV_snoc, ← HQ.out]
        · have := HMM.out; go_num
        · rw [List.length_append, ← HJ.out]; go_num
        · show OwnV _ _ _ _ _ _
          rw [markV_snoc, ← HQ.out, List.append_assoc]
          simp only [← HMM.out]
          exact HO5.out
      case measure => simp [intOf]; omega
    | nil =>
      have hjn : j = n := by simpa using hlen
      subst hjn
      have HR := Lib.hid (show q = afterV k hs ∧ OwnV wr lo hi A cap (markV k hs) from ⟨by rw [HQ.out, HS.out, List.append_nil], by have := HO.out; rw [HS.out, List.append_nil]; rwa [List.append_nil] at this⟩)
      clear hj
      go_wp2
      go_ret
      exact ⟨by rw [HR.out.1]; rfl, HR.out.2, HM.out, HML2.out⟩
end Go.Proofs.Ytojplmjoipjabaa.Po
