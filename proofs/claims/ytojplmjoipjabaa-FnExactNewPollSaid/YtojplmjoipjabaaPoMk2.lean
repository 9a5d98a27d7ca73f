/-
  Contracts for the laws' helpers heldVoterS, markWonS, heldWonS, markPoll, heldPoll.
-/
import Derived.Test.YtojplmjoipjabaaPoMk
import Derived.Test.YtojplmjoipjabaaPoOwn
namespace Go.Proofs.Ytojplmjoipjabaa.Po
open Go.RowKit Nt
set_option linter.unusedVariables false
set_option linter.unusedSimpArgs false

set_option maxRecDepth 100000 in
set_option maxHeartbeats 2000000 in
theorem heldVoterS_any (A : Option Addr) (n c k B : Nat) (hs : List ((Bool × Int × Int × Bool) × Option Addr × Nat × List Int)) (w : World) (hn : hs.length = n) (h : VotB w B A (markV k hs)) (hB : B ≤ w.heap.size) (hk1 : 1 ≤ k) (hk : afterV k hs ≤ 1000000000) :
    Calls Try.prog 62 #[.slice A n c, .int .i64 (k : Int)] w fun e w' => e = .returned (.int .i64 ((afterV k hs : Nat) : Int)) ∧ Below w.heap.size w w' := by
  have HN := Lib.hid hn
  have HC0 := Lib.hid h
  clear h
  go_enter Try.func62, Try.ntmps62
  go_wp2
  go_loopw [1, 5] (fun x i wr => ∃ (ds rs : List ((Bool × Int × Int × Bool) × Option Addr × Nat × List Int)) (q : Nat), Hid (hs = ds ++ rs) ∧ Hid (q = afterV k ds) ∧ 1 ≤ q ∧ x = .int .i64 (q : Int) ∧ i = .int .i64 ds.length ∧ Below w.heap.size w wr) (fun _ i _ => n - (intOf i).toNat)
  case atStart => exact ⟨[], hs, k, rfl, rfl, hk1, rfl, rfl, Below.refl _ _⟩
  case round =>
    obtain ⟨ds, rs, q, HS, HQ, hq1, rfl, rfl, hb⟩ := hrel
    have hlen : ds.length + rs.length = n := by rw [← HN.out, HS.out, List.length_append]
    obtain ⟨j, hj⟩ : ∃ j, j = ds.length := ⟨_, rfl⟩
    have HJ := Lib.hid hj
    rw [← hj] at hlen ⊢
    cases rs with
    | cons x t =>
      obtain ⟨s0, a, ca, vs⟩ := x
      have haf : q + 4 + vs.length ≤ 1000000000 := by
        have h1 : afterV k hs = afterV (q + 4 + vs.length) t := by rw [HS.out, afterV_append, ← HQ.out]; rfl
        have h2 := afterV_up (q + 4 + vs.length) t
        omega
      have hlt : j < n := by simp at hlen; omega
      have hjq : j ≤ q := by rw [HQ.out, HJ.out]; exact Nat.le_trans (Nat.le_add_left _ _) (afterV_len k ds)
      have hlm : j < (markV k hs).length := by rw [markV_len, HN.out]; exact hlt
      obtain ⟨b, off, rfl, hbB, hc⟩ := HC0.out.get (by omega)
      obtain ⟨hc0, hc1, hc2, hc3, hc4⟩ := hc j hlm
      have hv := HC0.out.yes j hlm
      have e : (markV k hs)[j]'hlm = ((thr (q : Int), (q : Int) + 1, (q : Int) + 1 + 1, thr ((q + 3 + vs.length : Nat) : Int)), a, ca, mInts (q + 3) vs.length) := by
        have h1 := markV_at k ds t (s0, a, ca, vs) j hj (by rw [← HS.out]; exact hlm)
        rw [← HQ.out] at h1
        simp only [← HS.out] at h1
        exact h1
      rw [e] at hc0 hc1 hc2 hc3 hc4 hv
      simp only [mInts_len] at hc0 hc1 hc2 hc3 hc4 hv
      have hbr : b < wr.heap.size := Nat.lt_of_lt_of_le hbB (Nat.le_trans hB hb.size)
      have p0 := (hb.cell (p := ⟨b, off + j * 5, none⟩) (Nat.lt_of_lt_of_le hbB hB)).trans hc0
      have p1 := (hb.cell (p := ⟨b, off + j * 5 + 1, none⟩) (Nat.lt_of_lt_of_le hbB hB)).trans hc1
      have p2 := (hb.cell (p := ⟨b, off + j * 5 + 2, none⟩) (Nat.lt_of_lt_of_le hbB hB)).trans hc2
      have p3 := (hb.cell (p := ⟨b, off + j * 5 + 3, none⟩) (Nat.lt_of_lt_of_le hbB hB)).trans hc3
      have p4 := (hb.cell (p := ⟨b, off + j * 5 + 4, none⟩) (Nat.lt_of_lt_of_le hbB hB)).trans hc4
      have hj0 : (0 : Int) ≤ (j : Int) := by omega
      have hj1 : (j : Int) < (n : Int) := by omega
      have HB := Lib.hid hb
      have HV := Lib.hid (heldIntS_any a vs.length ca (q + 3) B wr (hv.below (hb.mono hB)) (Nat.le_trans hB hb.size) (by omega) (by omega))
      rw [show ((q + 3 : Nat) : Int) = (q : Int) + 1 + 1 + 1 by omega] at HV
      obtain ⟨m, hm⟩ : ∃ m, m = q + 3 + vs.length := ⟨_, rfl⟩
      rw [← hm] at p4 HV
      have hm0 : (0 : Int) ≤ (m : Int) := by omega
      have hmb : m + 1 ≤ 1000000000 := by omega
      have ht0 : ((q : Int) % 3 == 0) = thr (q : Int) := rfl
      have ht1 : ((m : Int) % 3 == 0) = thr (m : Int) := rfl
      have HMM := Lib.hid hm
      clear hc hc0 hc1 hc2 hc3 hc4 hb hv e hlm hj hm
      obtain ⟨b0, hb0⟩ : ∃ b, b = thr (q : Int) := ⟨_, rfl⟩
      obtain ⟨b1, hb1⟩ : ∃ b, b = thr (m : Int) := ⟨_, rfl⟩
      rw [← hb0] at p0 ht0
      rw [← hb1] at p4 ht1
      clear hb0 hb1
      go_wp2_with fail
      refine HV.out.mono ?_
      rintro e w5 ⟨rfl, rfl⟩
      go_wp2
      go_roundw
      case rel =>
        refine ⟨ds ++ [(s0, a, ca, vs)], t, q + 4 + vs.length, ?_, ?_, by omega, ?_, ?_, HB.out⟩
        · show _ = _; rw [HS.out]; simp
        · show _ = _; rw [afterV_snoc, ← HQ.out]
        · have := HMM.out; go_num
        · rw [List.length_append, ← HJ.out]; go_num
      case measure => simp [intOf]; omega
    | nil =>
      have hjn : j = n := by simpa using hlen
      subst hjn
      have HR := Lib.hid (show q = afterV k hs from by rw [HQ.out, HS.out, List.append_nil])
      clear hj
      go_wp2
      go_ret
      exact ⟨by rw [HR.out]; rfl, hb⟩

def mWons (k n : Nat) : List (Int × Int) := (List.range n).map fun i => (((k + 2 * i : Nat) : Int), ((k + 2 * i : Nat) : Int) + 1)
theorem mWons_len (k n : Nat) : (mWons k n).length = n := by simp [mWons]
theorem mWons_at (k n j : Nat) (h : j < (mWons k n).length) : (mWons k n)[j] = (((k + 2 * j : Nat) : Int), ((k + 2 * j : Nat) : Int) + 1) := by simp [mWons]
def mFlatN (k n : Nat) : List Value := ((mWons k n).map wonCs).flatten
theorem mFlatN_len (k n : Nat) : (mFlatN k n).length = n * 2 := by
  unfold mFlatN; rw [flat_len (wonCs_len _), List.length_map, mWons_len]
theorem mFlatN_succ (k n q : Nat) (hq : q = k + 2 * n) : mFlatN k (n + 1) = (mFlatN k n ++ [.int .i64 (q : Int)]) ++ [.int .i64 ((q : Int) + 1)] := by
  subst hq
  unfold mFlatN mWons
  rw [List.range_succ, List.map_append, List.map_append, List.flatten_append]
  simp [wonCs]
set_option maxRecDepth 100000 in
set_option maxHeartbeats 1000000 in
theorem markWonS_any (A : Option Addr) (n cap k lo hi : Nat) (ws : List (Int × Int)) (w : World) (hn : ws.length = n) (h : OwnN w lo hi A cap ws) (hk1 : 1 ≤ k) (hk : k + 2 * n ≤ 1000000000) :
    Calls Try.prog 61 #[.slice A n cap, .int .i64 (k : Int)] w fun e w' => e = .returned (.int .i64 ((k + 2 * n : Nat) : Int)) ∧ OwnN w' lo hi A cap (mWons k n) ∧ MidA A w w' := by
  by_cases hz : n = 0
  · subst hz
    have hl : ws = [] := List.eq_nil_of_length_eq_zero hn
    subst hl
    have HO := Lib.hid h
    clear h
    go_enter Try.func61, Try.ntmps61
    go_wp2
    refine wp_loop_rounds 1 ?_
    rw [rounds_succ]
    go_wp2
    go_ret
    exact ⟨rfl, HO.out, MidA.refl _ _⟩
  · obtain ⟨g, cur, rfl, _⟩ := Own.form h (by simp; omega)
    obtain ⟨hf0, h1, h2, h3, h4⟩ := Own.flat h
    have HF0 := Lib.hid hf0
    have HB := Lib.hid (show lo ≤ g ∧ g < hi ∧ n ≤ cap ∧ cap ≤ maxLen from ⟨h1, h2, by rw [← hn]; simpa using h3, h4⟩)
    have hc : n ≤ cap := HB.out.2.2.1
    clear h hf0 h1 h2 h3 h4 hn
    go_enter Try.func61, Try.ntmps61
    go_wp2
    go_loopw [1, 5] (fun x i wr => ∃ (j q : Nat), j ≤ n ∧ q = k + 2 * j ∧ x = .int .i64 (q : Int) ∧ i = .int .i64 j ∧ Hid (Flat wr g (cap * 2) 89 (mFlatN k j)) ∧ Hid (MidA (some ⟨g, 0, none⟩) w wr)) (fun _ i _ => n - (intOf i).toNat)
    case atStart => exact ⟨0, k, by omega, by omega, rfl, rfl, HF0, MidA.refl _ _⟩
    case round =>
      clear HF0
      obtain ⟨j, q, hj, hq, rfl, rfl, HF, HM⟩ := hrel
      by_cases hlt : j < n
      · have HSU := Lib.hid (mFlatN_succ k j q hq)
        have HLE := Lib.hid (mFlatN_len k j)
        obtain ⟨v0, hv0⟩ := HF.out.cell (j * 2) (by omega)
        obtain ⟨v1, hv1⟩ := HF.out.cell (j * 2 + 1) (by omega)
        have hfr0 := HF.out.free (j * 2)
        have hfr1 := HF.out.free (j * 2 + 1)
        have hj0 : (0 : Int) ≤ (j : Int) := by omega
        have hj1 : (j : Int) < (n : Int) := by omega
        have hq3 : q + 2 ≤ 1000000000 := by omega
        have HQ := Lib.hid hq
        clear hq
        have HF1 := Lib.hid ((HF.out.snoc (by rw [HLE.out]; omega) (j * 2) HLE.out.symm (.int .i64 (q : Int))).snoc (by simp [HLE.out]; omega) (j * 2 + 1) (by simp [HLE.out]) (.int .i64 ((q : Int) + 1)))
        go_wp2
        go_roundw
        case rel =>
          refine ⟨j + 1, q + 2, by omega, by have := HQ.out; omega, by go_num, by go_num, ?_, (HM.out.set _ _).set _ _⟩
          unfold Hid
          rw [HSU.out]
          exact HF1.out
        case measure => simp [intOf]; omega
      · have hjn : j = n := by omega
        subst hjn
        subst hq
        have ho := Flat.own (L := (mWons k j).map wonCs) HF.out (wonCs_len _) HB.out.1 HB.out.2.1 (by simp [mWons_len]; exact hc) HB.out.2.2.2
        have HO := Lib.hid ho
        clear ho
        go_wp2
        go_ret
        exact ⟨rfl, HO.out, HM.out⟩
set_option maxRecDepth 100000 in
set_option maxHeartbeats 1000000 in
theorem heldWonS_any (A : Option Addr) (n c k B : Nat) (w : World) (h : WonB w B A (mWons k n)) (hB : B ≤ w.heap.size) (hk1 : 1 ≤ k) (hk : k + 2 * n ≤ 1000000000) :
    Calls Try.prog 64 #[.slice A n c, .int .i64 (k : Int)] w fun e w' => e = .returned (.int .i64 ((k + 2 * n : Nat) : Int)) ∧ w = w' := by
  have HS := Lib.hid h
  clear h
  go_enter Try.func64, Try.ntmps64
  go_wp2
  go_loopw [1, 5] (fun x i wr => ∃ (j q : Nat), j ≤ n ∧ q = k + 2 * j ∧ x = .int .i64 (q : Int) ∧ i = .int .i64 j ∧ w = wr) (fun _ i _ => n - (intOf i).toNat)
  case atStart => exact ⟨0, k, by omega, by omega, rfl, rfl, rfl⟩
  case round =>
    obtain ⟨j, q, hj, hq, rfl, rfl, rfl⟩ := hrel
    by_cases hlt : j < n
    · obtain ⟨b, off, rfl, hbB, hc⟩ := HS.out.get (by rw [mWons_len]; omega)
      obtain ⟨c0, c1⟩ := hc j (by rw [mWons_len]; exact hlt)
      rw [mWons_at, ← hq] at c0 c1
      simp only at c0 c1
      have hj0 : (0 : Int) ≤ (j : Int) := by omega
      have hj1 : (j : Int) < (n : Int) := by omega
      have hq3 : q + 2 ≤ 1000000000 := by omega
      have HQ := Lib.hid hq
      clear hq hc
      go_wp2
      go_roundw
      case rel => exact ⟨j + 1, q + 2, by omega, by have := HQ.out; omega, by go_num, by go_num, by trivial⟩
      case measure => simp [intOf]; omega
    · have hjn : j = n := by omega
      subst hjn
      subst hq
      go_wp2
      go_ret
      exact ⟨rfl, rfl⟩

/-- Only the two blocks of a net are written. -/
def MidN (A A' : Option Addr) (w w' : World) : Prop := ∀ b, b < w.heap.size → (∀ x, A = some x → x.block ≠ b) → (∀ x, A' = some x → x.block ≠ b) → w'.heap[b]? = w.heap[b]?
theorem own_midN {A A' C : Option Addr} {w w' : World} {lo hi sz cap : Nat} {t : TypeId} {L : List (List Value)} (h : Own w lo hi t sz C cap L) (hm : MidN A A' w w') (h1 : ∀ x y, A = some x → C = some y → x.block ≠ y.block) (h2 : ∀ x y, A' = some x → C = some y → x.block ≠ y.block) : Own w' lo hi t sz C cap L := by
  rcases h with h | ⟨g, cur, hA, h3, h4, h5, h6⟩
  · exact .inl h
  · exact .inr ⟨g, cur, hA, h3, h4, (hm g (lt_blk h5) (fun x hx => h1 x _ hx hA) (fun x hx => h2 x _ hx hA)).trans h5, h6⟩
set_option maxHeartbeats 1000000 in
theorem markNetF_any (now far : Int) (A A' : Option Addr) (n cap n' cap' k lo hi : Nat) (is : List Int) (ls : List (Int × Int × Int × ByteArray)) (w : World) (hn : is.length = n) (hn' : ls.length = n') (h : OwnI w lo hi A cap is) (h' : OwnL w lo hi A' cap' ls) (hh : hi ≤ w.heap.size) (hlo : lo ≤ hi) (hk1 : 1 ≤ k) (hk : k + n + 4 * n' ≤ 1000000000) :
    Calls Try.prog 60 #[.agg #[.int .i64 now, .slice A n cap, .int .i64 far, .slice A' n' cap'], .int .i64 (k : Int)] w fun e w' => e = .returned (.int .i64 ((k + n + 4 * n' : Nat) : Int)) ∧ OwnI w' lo hi A cap (mInts k n) ∧ OwnL w' lo hi A' cap' (mLts (k + n) n') ∧ Mid lo hi w w' ∧ MidN A A' w w' := by
  have hb0 := below1 w (.cells #[.int .i64 now, .slice A n cap, .int .i64 far, .slice A' n' cap'] 35)
  have hbk := heap_alloc_new w (.cells #[.int .i64 now, .slice A n cap, .int .i64 far, .slice A' n' cap'] 35)
  have h1 := h.below (hb0.mono hh)
  have h2 := h'.below (hb0.mono hh)
  have HI := Lib.hid (markIntS_any A n cap k lo hi is _ hn h1 hk1 (by omega))
  have HH2 := Lib.hid h2
  have HL := Lib.hid (fun W (hW : OwnL W lo hi A' cap' ls) => markLetterS_any A' n' cap' (k + n) lo hi ls W hn' hW (by omega) hk)
  have hm0 : Mid lo hi w (w.alloc (.cells #[.int .i64 now, .slice A n cap, .int .i64 far, .slice A' n' cap'] 35)) := Below.mid hb0
  obtain ⟨q, hq⟩ : ∃ q, q = k + n := ⟨_, rfl⟩
  rw [← hq] at HI HL ⊢
  have HM0 := Lib.hid hm0
  have HBB := Lib.hid hb0
  have HBK := Lib.hid hbk
  have HH1 := Lib.hid h1
  clear h h' h1 h2 hb0 hm0 hbk hn hn' hq hk
  go_enter Try.func60, Try.ntmps60
  go_wp2_with fail
  refine HI.out.mono ?_
  rintro e w1 ⟨rfl, ho1, hm1⟩
  have hl1 := Own.midA HH2.out hm1 (own_apart HH1.out HH2.out (by decide))
  have hmm := hm1.mid (lo := lo) (hi := hi) (own_range HH1.out)
  have HM1 := Lib.hid (HM0.out.trans hmm)
  have HF1 := Lib.hid (show MidN A A' w w1 from fun b hb hx hy => (hm1.2.2.2.2 b (by simp; omega) hx).trans (HBB.out.block b hb))
  have hkb := (hmm.2.2.2.2 w.heap.size (by simp) (.inr hh)).trans HBK.out
  have y1 := cell_of_row _ _ 1 _ 35 (0, 0) hkb
  have y3 := cell_of_row _ _ 3 _ 35 (0, 0) hkb
  have HC2 := Lib.hid (HL.out w1 hl1)
  have HHL := Lib.hid hl1
  have HO1 := Lib.hid ho1
  clear HI HL hmm hm1 hkb hl1 ho1
  go_wp2_with fail
  refine HC2.out.mono ?_
  rintro e w2 ⟨rfl, ho2, hm2⟩
  have HO1b := Lib.hid (Own.midA HO1.out hm2 (own_apart HHL.out HO1.out (by decide)))
  have HM2 := Lib.hid (HM1.out.trans (hm2.mid (lo := lo) (hi := hi) (own_range HHL.out)))
  have HO2 := Lib.hid ho2
  have HF2 := Lib.hid (show MidN A A' w w2 from fun b hb hx hy => (hm2.2.2.2.2 b (Nat.lt_of_lt_of_le hb HM1.out.2.2.2.1) hy).trans (HF1.out b hb hx hy))
  clear hm2 ho2
  go_wp2
  go_ret
  exact ⟨rfl, HO1b.out, HO2.out, HM2.out, HF2.out⟩

/-- How far the numbers go over a poll, as data. -/
def afterD : Nat → List ((Bool × Int × Int × Bool) × List Int) → Nat
  | k, [] => k
  | k, v :: t => afterD (k + 4 + v.2.length) t
theorem afterD_of (k : Nat) (gs : List ((Bool × Int × Int × Bool) × Option Addr × Nat × List Int)) : afterV k gs = afterD k (gs.map vdat) := by
  induction gs generalizing k with
  | nil => rfl
  | cons a t ih => simp only [afterV, List.map_cons, afterD, vdat]; exact ih _
theorem afterD_few (k M : Nat) (vs : List ((Bool × Int × Int × Bool) × List Int)) (h : ∀ v ∈ vs, v.2.length ≤ M) : afterD k vs ≤ k + vs.length * (4 + M) := by
  induction vs generalizing k with
  | nil => simp [afterD]
  | cons a t ih =>
    have := ih (k + 4 + a.2.length) (fun x hx => h x (List.mem_cons_of_mem _ hx))
    have h1 := h a (by simp)
    simp only [afterD, List.length_cons, Nat.add_mul, Nat.one_mul]
    omega
theorem afterD_up (k : Nat) (vs : List ((Bool × Int × Int × Bool) × List Int)) : k ≤ afterD k vs := by
  induction vs generalizing k with
  | nil => exact Nat.le_refl _
  | cons a t ih => have := ih (k + 4 + a.2.length); simp only [afterD]; omega
theorem markV_addr : ∀ {k : Nat} {gs : List ((Bool × Int × Int × Bool) × Option Addr × Nat × List Int)} {h : ((Bool × Int × Int × Bool) × Option Addr × Nat × List Int)}, h ∈ markV k gs → ∃ g ∈ gs, h.2.1 = g.2.1
  | _, [], h, hh => by simp [markV] at hh
  | k, a :: t, h, hh => by
    simp only [markV, List.mem_cons] at hh
    rcases hh with rfl | hh
    · exact ⟨a, by simp, rfl⟩
    · obtain ⟨g, hg, he⟩ := markV_addr hh
      exact ⟨g, by simp [hg], he⟩
def afterP (k : Nat) (vs : List ((Bool × Int × Int × Bool) × List Int)) (n1 n2 n3 : Nat) : Nat := afterD k vs + n1 + 4 * n2 + 2 * n3

set_option maxRecDepth 100000 in
set_option maxHeartbeats 4000000 in
theorem markPoll_any (A A1 A2 A3 : Option Addr) (n c n1 c1 n2 c2 n3 c3 k lo hi : Nat) (now far : Int) (gs : List ((Bool × Int × Int × Bool) × Option Addr × Nat × List Int)) (vs : List ((Bool × Int × Int × Bool) × List Int)) (is : List Int) (ls : List (Int × Int × Int × ByteArray)) (ws : List (Int × Int)) (w : World) (hd : gs.map vdat = vs) (hn : vs.length = n) (hn1 : is.length = n1) (hn2 : ls.length = n2) (hn3 : ws.length = n3)
    (h : OwnP w lo hi A c gs A1 c1 is A2 c2 ls A3 c3 ws) (hh : hi ≤ w.heap.size) (hlo : lo ≤ hi) (hk1 : 1 ≤ k) (hk : afterP k vs n1 n2 n3 ≤ 1000000000) :
    Calls Try.prog 20 #[.agg #[.slice A n c, .int .i64 now, .slice A1 n1 c1, .int .i64 far, .slice A2 n2 c2, .slice A3 n3 c3], .int .i64 (k : Int)] w fun e w' => e = .returned (.int .i64 ((afterP k vs n1 n2 n3 : Nat) : Int)) ∧ OwnP w' lo hi A c (markV k gs) A1 c1 (mInts (afterD k vs) n1) A2 c2 (mLts (afterD k vs + n1) n2) A3 c3 (mWons (afterD k vs + n1 + 4 * n2) n3) ∧ Mid lo hi w w' := by
  have hl : gs.length = n := by rw [← hn, ← hd, List.length_map]
  have had : afterV k gs = afterD k vs := by rw [afterD_of, hd]
  have hup := afterD_up k vs
  unfold afterP at hk ⊢
  obtain ⟨q, hq⟩ : ∃ q, q = afterD k vs := ⟨_, rfl⟩
  rw [← hq] at had hk hup ⊢
  have hb0 := below1 w (.cells #[.slice A n c, .int .i64 now, .slice A1 n1 c1, .int .i64 far, .slice A2 n2 c2, .slice A3 n3 c3] 38)
  have hbk := heap_alloc_new w (.cells #[.slice A n c, .int .i64 now, .slice A1 n1 c1, .int .i64 far, .slice A2 n2 c2, .slice A3 n3 c3] 38)
  have h0 := h.below (hb0.mono hh)
  have HV := Lib.hid (markVoterS_any A n c k lo hi gs _ hl h0.1 (Nat.le_trans hh hb0.size) hk1 (by omega))
  rw [had] at HV
  have HN := Lib.hid (fun W (h1 : OwnI W lo hi A1 c1 is) (h2 : OwnL W lo hi A2 c2 ls) (hW : hi ≤ W.heap.size) => markNetF_any now far A1 A2 n1 c1 n2 c2 q lo hi is ls W hn1 hn2 h1 h2 hW hlo (by omega) (by omega))
  have HW := Lib.hid (fun W (h3 : OwnN W lo hi A3 c3 ws) => markWonS_any A3 n3 c3 (q + n1 + 4 * n2) lo hi ws W hn3 h3 (by omega) hk)
  have HM0 := Lib.hid (show Mid lo hi w (w.alloc (.cells #[.slice A n c, .int .i64 now, .slice A1 n1 c1, .int .i64 far, .slice A2 n2 c2, .slice A3 n3 c3] 38)) from Below.mid hb0)
  have HBK := Lib.hid hbk
  have HO := Lib.hid h0
  have hw0 : w.heap.size < w.heap.size + 1 := Nat.lt_succ_self _
  obtain ⟨r1, hr1⟩ : ∃ r, r = q + n1 + 4 * n2 := ⟨_, rfl⟩
  rw [← hr1] at HN HW ⊢
  clear h hb0 hbk h0 hn hn1 hn2 hn3 hd hq had hk hup hl hr1
  go_enter Try.func20, Try.ntmps20
  go_wp2_with fail
  refine HV.out.mono ?_
  rintro e w1 ⟨rfl, ho1, hm1, hl1⟩
  have HI1 := Lib.hid (own_midL HO.out.2.1 hl1 (own_apart HO.out.1.1 HO.out.2.1 (by decide)) (fun g hg x y hx hy => HO.out.2.2.2.2 g hg x y hx hy))
  have HL1 := Lib.hid (own_midL HO.out.2.2.1 hl1 (own_apart HO.out.1.1 HO.out.2.2.1 (by decide)) (fun g hg => own_apart (HO.out.1.2.1 g hg) HO.out.2.2.1 (by decide)))
  have HN1 := Lib.hid (own_midL HO.out.2.2.2.1 hl1 (own_apart HO.out.1.1 HO.out.2.2.2.1 (by decide)) (fun g hg => own_apart (HO.out.1.2.1 g hg) HO.out.2.2.2.1 (by decide)))
  have HM1 := Lib.hid (HM0.out.trans hm1)
  have hkb := (hm1.2.2.2.2 w.heap.size (by simp) (.inr hh)).trans HBK.out
  have hs1 : hi ≤ w1.heap.size := Nat.le_trans hh (Nat.le_trans (by simp) hm1.2.2.2.1)
  have y1 := cell_of_row _ _ 1 _ 38 (0, 0) hkb
  have y2 := cell_of_row _ _ 2 _ 38 (0, 0) hkb
  have y3 := cell_of_row _ _ 3 _ 38 (0, 0) hkb
  have y4 := cell_of_row _ _ 4 _ 38 (0, 0) hkb
  have HK1 := Lib.hid hkb
  have HV1 := Lib.hid ho1
  have YA := Lib.hid (show ∀ h ∈ markV k gs, ∀ x y, h.2.1 = some x → A1 = some y → x.block ≠ y.block from fun h hg x y hx hy => by
    obtain ⟨g, hg', he⟩ := markV_addr hg
    exact HO.out.2.2.2.2 g hg' x y (he.symm.trans hx) hy)
  clear hm1 hl1 hkb ho1 HV
  go_wp2_with fail
  refine (HN.out _ HI1.out HL1.out hs1).mono ?_
  rintro e w2 ⟨rfl, ho2, ho3, hm2, hf2⟩
  have HV2 := Lib.hid (show OwnV w2 lo hi A c (markV k gs) from ⟨own_midN HV1.out.1 hf2 (own_apart HI1.out HV1.out.1 (by decide)) (own_apart HL1.out HV1.out.1 (by decide)), fun g hg => own_midN (HV1.out.2.1 g hg) hf2 (fun x y hx hy e => YA.out g hg y x hy hx e.symm) (own_apart HL1.out (HV1.out.2.1 g hg) (by decide)), HV1.out.2.2⟩)
  have HN2 := Lib.hid (own_midN HN1.out hf2 (own_apart HI1.out HN1.out (by decide)) (own_apart HL1.out HN1.out (by decide)))
  have HM2 := Lib.hid (HM1.out.trans hm2)
  have hk2 := (hm2.2.2.2.2 w.heap.size (Nat.lt_of_lt_of_le hw0 (by have := HM1.out.2.2.2.1; have h9 := lt_blk HK1.out; omega)) (.inr hh)).trans HK1.out
  have y5 := cell_of_row _ _ 5 _ 38 (0, 0) hk2
  have HC3 := Lib.hid (HW.out w2 HN2.out)
  have HI2 := Lib.hid ho2
  have HL2 := Lib.hid ho3
  clear hm2 hf2 hk2 ho2 ho3 HN y1 y2 y3 y4
  go_wp2_with fail
  refine HC3.out.mono ?_
  rintro e w3 ⟨rfl, ho4, hm3⟩
  have HP := Lib.hid (show OwnP w3 lo hi A c (markV k gs) A1 c1 (mInts q n1) A2 c2 (mLts (q + n1) n2) A3 c3 (mWons r1 n3) from
    ⟨⟨HV2.out.1.midA hm3 (own_apart HN2.out HV2.out.1 (by decide)), fun g hg => Own.midA (HV2.out.2.1 g hg) hm3 (own_apart HN2.out (HV2.out.2.1 g hg) (by decide)), HV2.out.2.2⟩,
     Own.midA HI2.out hm3 (own_apart HN2.out HI2.out (by decide)), Own.midA HL2.out hm3 (own_apart HN2.out HL2.out (by decide)), ho4, YA.out⟩)
  have HM3 := Lib.hid (HM2.out.trans (hm3.mid (lo := lo) (hi := hi) (own_range HN2.out)))
  clear hm3 ho4
  go_wp2
  go_ret
  exact ⟨rfl, HP.out, HM3.out⟩

set_option maxRecDepth 100000 in
set_option maxHeartbeats 4000000 in
theorem heldPoll_any (A A1 A2 A3 : Option Addr) (n c n1 c1 n2 c2 n3 c3 k lo hi : Nat) (now far : Int) (gs : List ((Bool × Int × Int × Bool) × Option Addr × Nat × List Int)) (vs : List ((Bool × Int × Int × Bool) × List Int)) (w : World) (hd : gs.map vdat = vs) (hn : vs.length = n)
    (h : OwnP w lo hi A c (markV k gs) A1 c1 (mInts (afterD k vs) n1) A2 c2 (mLts (afterD k vs + n1) n2) A3 c3 (mWons (afterD k vs + n1 + 4 * n2) n3)) (hh : hi ≤ w.heap.size) (hk1 : 1 ≤ k) (hk : afterP k vs n1 n2 n3 ≤ 1000000000) :
    Calls Try.prog 21 #[.agg #[.slice A n c, .int .i64 now, .slice A1 n1 c1, .int .i64 far, .slice A2 n2 c2, .slice A3 n3 c3], .int .i64 (k : Int)] w fun e w' => e = .returned (.int .i64 ((afterP k vs n1 n2 n3 : Nat) : Int)) ∧ Below w.heap.size w w' := by
  have hl : gs.length = n := by rw [← hn, ← hd, List.length_map]
  have had : afterV k gs = afterD k vs := by rw [afterD_of, hd]
  have hup := afterD_up k vs
  unfold afterP at hk ⊢
  obtain ⟨q, hq⟩ : ∃ q, q = afterD k vs := ⟨_, rfl⟩
  rw [← hq] at had hk hup h ⊢
  have hb0 := below1 w (.cells #[.slice A n c, .int .i64 now, .slice A1 n1 c1, .int .i64 far, .slice A2 n2 c2, .slice A3 n3 c3] 38)
  have hbk := heap_alloc_new w (.cells #[.slice A n c, .int .i64 now, .slice A1 n1 c1, .int .i64 far, .slice A2 n2 c2, .slice A3 n3 c3] 38)
  have HV := Lib.hid (heldVoterS_any A n c k hi gs _ hl (h.1.vots.below (hb0.mono hh)) (Nat.le_trans hh hb0.size) hk1 (by omega))
  rw [had] at HV
  have HN := Lib.hid (fun W (hW : Below w.heap.size w W) => heldNet_any now far A1 A2 n1 c1 n2 c2 q hi W (h.2.1.ints.below (hW.mono hh)) (h.2.2.1.lets.below (hW.mono hh)) (Nat.le_trans hh hW.size) (by omega) (by omega))
  obtain ⟨r1, hr1⟩ : ∃ r, r = q + n1 + 4 * n2 := ⟨_, rfl⟩
  have HW := Lib.hid (fun W (hW : Below w.heap.size w W) => heldWonS_any A3 n3 c3 r1 hi W (by rw [hr1]; exact h.2.2.2.1.wons.below (hW.mono hh)) (Nat.le_trans hh hW.size) (by omega) (by omega))
  rw [← hr1] at HN ⊢
  have q0 : (0 : Int) ≤ (q : Int) := by omega
  have q1 : (0 : Int) ≤ (r1 : Int) := by omega
  obtain ⟨r2, hr2⟩ : ∃ r, r = r1 + 2 * n3 := ⟨_, rfl⟩
  rw [← hr2] at HW ⊢
  have q2 : (0 : Int) ≤ (r2 : Int) := by omega
  have HB0 := Lib.hid hb0
  have HK0 := Lib.hid hbk
  clear h hb0 hbk hn hd hq had hk hup hl hr1 hr2
  go_enter Try.func21, Try.ntmps21
  go_wp2_with fail
  refine HV.out.mono ?_
  rintro e w1 ⟨rfl, ha1⟩
  have HB1 := Lib.hid (HB0.out.trans (ha1.mono HB0.out.size))
  have hk1 := (ha1.block w.heap.size (lt_blk HK0.out)).trans HK0.out
  have y1 := cell_of_row _ _ 1 _ 38 (0, 0) hk1
  have y2 := cell_of_row _ _ 2 _ 38 (0, 0) hk1
  have y3 := cell_of_row _ _ 3 _ 38 (0, 0) hk1
  have y4 := cell_of_row _ _ 4 _ 38 (0, 0) hk1
  have HK1 := Lib.hid hk1
  clear ha1 hk1 HV
  go_wp2_with fail
  refine (HN.out _ HB1.out).mono ?_
  rintro e w2 ⟨rfl, ha2⟩
  have HB2 := Lib.hid (HB1.out.trans (ha2.mono HB1.out.size))
  have hk2 := (ha2.block w.heap.size (lt_blk HK1.out)).trans HK1.out
  have y5 := cell_of_row _ _ 5 _ 38 (0, 0) hk2
  clear ha2 hk2 y1 y2 y3 y4
  go_wp2_with fail
  refine (HW.out _ HB2.out).mono ?_
  rintro e w3 ⟨rfl, rfl⟩
  go_wp2
  go_ret
  exact ⟨rfl, HB2.out⟩
end Go.Proofs.Ytojplmjoipjabaa.Po
