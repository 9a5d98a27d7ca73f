/-
  Contracts for the versions that a floor leaves: neededFrom of the program.
-/
import Derived.Test.YtcefofgdbmnkdaaValueAt
namespace Go.Proofs.Ytcefofgdbmnkdaa
open Go.RowKit Go.Shelf CM
set_option linter.unusedVariables false

attribute [local go_sem] Oper.semAt_some

/-- From which place on versions are needed, when some have come. -/
def firstN (pre : List (Nat × (Int × ByteArray × Bool))) : Nat := match pre.getLast? with | some x => if x.2.2.2 then x.1 + 1 else x.1 | none => 0
/-- The same, as the program reckons it. -/
def firstI (pre : List (Nat × (Int × ByteArray × Bool))) : Int := match pre.getLast? with | some x => if x.2.2.2 then wrap64 ((x.1 : Int) + 1) else (x.1 : Int) | none => 0
theorem firstI_snoc (pre : List (Nat × (Int × ByteArray × Bool))) (x : Nat × (Int × ByteArray × Bool)) : firstI (pre ++ [x]) = if x.2.2.2 then wrap64 ((x.1 : Int) + 1) else (x.1 : Int) := by simp [firstI]
theorem firstI_gone (pre : List (Nat × (Int × ByteArray × Bool))) (i : Nat) (t : Int) (s : ByteArray) : firstI (pre ++ [(i, t, s, true)]) = wrap64 ((i : Int) + 1) := by rw [firstI_snoc]; exact if_pos rfl
theorem firstI_there (pre : List (Nat × (Int × ByteArray × Bool))) (i : Nat) (t : Int) (s : ByteArray) : firstI (pre ++ [(i, t, s, false)]) = (i : Int) := by rw [firstI_snoc]; exact if_neg Bool.false_ne_true
theorem firstI_eq (pre : List (Nat × (Int × ByteArray × Bool))) (h : ∀ x ∈ pre, x.1 ≤ 1048576) : firstI pre = (firstN pre : Int) := by
  unfold firstI firstN
  cases hl : pre.getLast? with
  | none => rfl
  | some x =>
    have hx := h x (List.mem_of_getLast? hl)
    simp only
    split
    · rw [IntWalk.wrap64_in _ ⟨by omega, by omega⟩]; rfl
    · rfl
theorem prs_small (vs : List (Int × ByteArray × Bool)) (k : Nat) (hk : k ≤ 1048576) : ∀ x ∈ prs vs k, x.1 ≤ 1048576 := by
  intro x hx
  simp only [prs, List.mem_map, List.mem_range] at hx
  obtain ⟨j, hj, rfl⟩ := hx
  simp only
  omega
theorem firstN_snoc (pre : List (Nat × (Int × ByteArray × Bool))) (x : Nat × (Int × ByteArray × Bool)) : firstN (pre ++ [x]) = if x.2.2.2 then x.1 + 1 else x.1 := by simp [firstN]

/-- What neededFrom hands back: the versions from a place on. -/
def NeedPost (vs : List (Int × ByteArray × Bool)) (fN B : Nat) (w : World) (e : Ending) (w' : World) : Prop :=
  ∃ A' c', e = .returned (.slice A' (vs.length - fN) c') ∧ VersB w' B A' (vs.drop fN) ∧ Below w.heap.size w w'

set_option maxRecDepth 100000 in
set_option maxHeartbeats 4000000 in
theorem needed_in (F : Fence) (n : Nat) (h0 : F.fn 80) (h1 : F.fn 104) (h2 : F.fn 117) (hro : F.round = none) (hn : 3 ≤ n) (b off cap B : Nat) (vs : List (Int × ByteArray × Bool)) (t : Int) (w : World) (hl : vs.length ≤ 1048576) (hcap : vs.length ≤ cap) (hv : VersB w B (some ⟨b, off, none⟩) vs) (hB : B ≤ w.heap.size)
    (hfl : firstN (prs vs (leadN t vs)) ≤ vs.length) :
    CallsIn F n Try.prog 80 #[.slice (some ⟨b, off, none⟩) vs.length cap, .int .i64 t] w (NeedPost vs (firstN (prs vs (leadN t vs))) B w) := by
  have hn1 : 1 ≤ n := by omega
  obtain ⟨fN, hfN⟩ : ∃ fN, fN = firstN (prs vs (leadN t vs)) := ⟨_, rfl⟩
  have HFN := Lib.hid hfN
  rw [← hfN] at hfl ⊢
  clear hfN
  refine callsIn_of_wp_marks Try.func80 rfl h0 ?_ hro
  simp only [Try.ntmps80, List.size_toArray, List.length_cons, List.length_nil, Nat.reduceAdd, Nat.reduceSub, Array.replicate_succ, Array.replicate_zero, List.push_toArray, List.append_toArray, List.nil_append, List.cons_append]
  gi_wp2_with (gi_at_call 104; refine (upTo_in F (n - 1) h1 hro _ _ _ _ _).mono ?_; rintro e w' ⟨rfl, rfl⟩)
  have bS := ((Boxed.new w 3 (.int .i64 0)).alloc (.cells #[.slice (some ⟨b, off, none⟩) vs.length cap] 79)).alloc (.cells #[.int .i64 t] 3)
  have bV := (Boxed.new (w.alloc (.cells #[.int .i64 0] 3)) 79 (.slice (some ⟨b, off, none⟩) vs.length cap)).alloc (.cells #[.int .i64 t] 3)
  have bT := Boxed.new ((w.alloc (.cells #[.int .i64 0] 3)).alloc (.cells #[.slice (some ⟨b, off, none⟩) vs.length cap] 79)) 3 (.int .i64 t)
  simp only [World.size_alloc] at bV bT
  have hB0 : Below w.heap.size w (((w.alloc (.cells #[.int .i64 0] 3)).alloc (.cells #[.slice (some ⟨b, off, none⟩) vs.length cap] 79)).alloc (.cells #[.int .i64 t] 3)) := below3 _ _ _ _
  have hsz : (((w.alloc (.cells #[.int .i64 0] 3)).alloc (.cells #[.slice (some ⟨b, off, none⟩) vs.length cap] 79)).alloc (.cells #[.int .i64 t] 3)).heap.size = w.heap.size + 3 := by simp
  obtain ⟨W0, hW0⟩ : ∃ W0, ((w.alloc (.cells #[.int .i64 0] 3)).alloc (.cells #[.slice (some ⟨b, off, none⟩) vs.length cap] 79)).alloc (.cells #[.int .i64 t] 3) = W0 := ⟨_, rfl⟩
  rw [hW0] at bS bV bT hB0 hsz ⊢
  clear hW0
  refine wpIn_rangeFunc_ownH hro hn1 (gf := 117) (lb := #[.pointer (some ⟨w.heap.size + 1, 0, none⟩), .pointer (some ⟨w.heap.size + 1 + 1, 0, none⟩)]) rfl h2 (enters_of Try.func117 (by kernel_rfl) rfl)
    (upTo_stops F (n - 1) h2 hro (by omega) (w.heap.size + 1) (w.heap.size + 1 + 1) w.heap.size _ cap B vs t hl hB W0 bV bT (hv.below (hB0.mono hB)) (by omega)) (fun h k => h.trans k) (kpV_b (by omega) (by omega)) (Below.refl _ _) (fun _ => rfl)
    (fun pre W => Boxed W w.heap.size 3 (.int .i64 (firstI pre)) ∧ (Below w.heap.size w W ∧ w.heap.size + 3 ≤ W.heap.size))
    (fun _ _ _ => False)
    (OwnFrom.and (Own.from (boxed_own _ _ _) _) (OwnFrom.and (ownFrom_below (Nat.le_refl _) (by omega)) (fun s X Y row hs hg hr => Nat.le_trans hs hg.size)))
    (fun _ _ _ _ _ hs _ _ => hs)
    ⟨bS, hB0, by omega⟩
    (fun x a' W => ∃ Bx, w.heap.size + 3 ≤ Bx ∧ Box3 W Bx x.2 ∧ a' = { tmps := #[.slice (some ⟨b, off, none⟩) vs.length cap, .int .i64 t, undef, undef, .slice none 0 0, .pointer (some ⟨w.heap.size, 0, none⟩), .int .i64 (x.1 : Int), .pointer (some ⟨Bx, 0, none⟩), .slice (some ⟨b, off, none⟩) vs.length cap, .int .i64 t, .func (.func 117) #[] #[.pointer (some ⟨w.heap.size + 1, 0, none⟩), .pointer (some ⟨w.heap.size + 1 + 1, 0, none⟩)], .int .i64 (x.1 : Int), .agg #[.int .i64 x.2.1, .string x.2.2.1, .bool x.2.2.2], undef, undef, undef, undef, undef, undef, undef, undef], defers := [] })
    (fun x a' _ X Y row hs hg hr => by obtain ⟨Bx, e1, e2, e3⟩ := hs; exact ⟨Bx, e1, e2.kept hg (fun r e => (hr r e).2), e3⟩)
    ?assign ?body ?done ?stop
  case assign =>
    rintro l pre x W K ⟨bS1, hB1, hs1⟩ hK
    unfold encV
    gi_wp2
    exact hK _ _ ((KeepsOthers.alloc _ _).from _) ((KpV.refl _ _ W).alloc hB1.size (by omega) _) ⟨bS1.alloc _, hB1.alloc hB1.size _, by simp; omega⟩ ⟨W.heap.size, by omega, Box3.new W _ _ _, rfl⟩
  case body =>
    rintro l pre x a' W hlW _ ⟨bS1, hB1, hs1⟩ ⟨Bx, hBx, bX, rfl⟩ hlt
    have x2 := cell_blk (i := 2) (show W.heap[Bx]? = _ from bX) rfl
    have cS := bS1.cell
    have fS := bS1.frozen
    have hne1 : Bx ≠ w.heap.size := by omega
    obtain ⟨xi, xt, xs, xg⟩ := x
    simp only at x2
    cases xg with
    | true =>
      have hb2 : Boxed ((W.setCell ⟨w.heap.size, 0, none⟩ (.int .i64 (xi : Int))).setCell ⟨w.heap.size, 0, none⟩ (.int .i64 (wrap64 ((xi : Int) + 1)))) w.heap.size 3 (.int .i64 (firstI (pre ++ [(xi, xt, xs, true)]))) := by
        rw [firstI_gone pre xi xt xs]
        exact (bS1.set (.int .i64 (xi : Int))).set (.int .i64 (wrap64 ((xi : Int) + 1)))
      have HBX := Lib.hid hb2
      clear hb2
      gi_wp2
      exact ⟨((KeepsOthers.setCell _ _ _).trans (KeepsOthers.setCell _ _ _)).from _,
        ⟨((Below.refl w.heap.size W).setCell (p := ⟨w.heap.size, 0, none⟩) (Nat.le_refl _) _).setCell (p := ⟨w.heap.size, 0, none⟩) (Nat.le_refl _) _,
          (Below.heap_setCell _ ⟨w.heap.size, 0, none⟩ _ (w.heap.size + 1 + 1) (show w.heap.size + 1 + 1 ≠ w.heap.size by omega)).trans (Below.heap_setCell _ ⟨w.heap.size, 0, none⟩ _ (w.heap.size + 1 + 1) (show w.heap.size + 1 + 1 ≠ w.heap.size by omega))⟩,
        HBX.out,
        (hB1.setCell (p := ⟨w.heap.size, 0, none⟩) (Nat.le_refl _) _).setCell (p := ⟨w.heap.size, 0, none⟩) (Nat.le_refl _) _, by simpa [World.setCell] using hs1⟩
    | false =>
      have hb2 : Boxed (W.setCell ⟨w.heap.size, 0, none⟩ (.int .i64 (xi : Int))) w.heap.size 3 (.int .i64 (firstI (pre ++ [(xi, xt, xs, false)]))) := by
        rw [firstI_there pre xi xt xs]
        exact bS1.set (.int .i64 (xi : Int))
      have HBX := Lib.hid hb2
      clear hb2
      gi_wp2
      exact ⟨(KeepsOthers.setCell _ _ _).from _,
        ⟨(Below.refl w.heap.size W).setCell (p := ⟨w.heap.size, 0, none⟩) (Nat.le_refl _) _,
          Below.heap_setCell _ ⟨w.heap.size, 0, none⟩ _ (w.heap.size + 1 + 1) (show w.heap.size + 1 + 1 ≠ w.heap.size by omega)⟩,
        HBX.out,
        hB1.setCell (p := ⟨w.heap.size, 0, none⟩) (Nat.le_refl _) _, by simpa [World.setCell] using hs1⟩
  case done =>
    rintro D zs W hD rfl ⟨bS1, hB1, hs1⟩ hK
    rw [firstI_eq _ (prs_small vs _ (by have := leadN_le t vs; omega)), ← HFN.out] at bS1
    have cS := bS1.cell
    have hbB := hB1.trans (belowK_b (w := w) (Nat.le_refl _) W D _ (.deferred none) (by omega) hK rfl rfl)
    have hfin := hv.below (hbB.mono hB)
    have HD1 := Lib.hid (show Below w.heap.size w _ from hbB)
    by_cases hcf : cap = fN
    · have hz : vs.drop fN = [] := List.drop_of_length_le (by omega)
      have hD0 : ∀ W' A', VersB W' B A' (vs.drop fN) := fun W' A' => by rw [hz]; exact .inl rfl
      have HDD := Lib.hid hD0
      clear hD0 hz hfin hbB
      gi_wp2
      all_goals refine ⟨by simp, .inl ⟨_, _, rfl, run_takeDeferred hK, ?_⟩⟩
      all_goals exact ⟨_, results_tmp rfl _ _ _, _, _, rfl, HDD.out _ _, HD1.out⟩
    · have hD0 : VersB (W.putObj D (.deferred none)) B (some ⟨b, off + fN * 3, none⟩) (vs.drop fN) := by
        rcases Nat.lt_or_ge fN vs.length with hlt | hge
        · obtain ⟨b', off', hA, hbb, hcc⟩ := hfin.get (by omega)
          simp only [Option.some.injEq, Addr.mk.injEq, and_true] at hA
          obtain ⟨rfl, rfl⟩ := hA
          refine .inr ⟨b, off + fN * 3, rfl, hbb, fun k hk i hi => ?_⟩
          simp only [List.length_map, List.length_drop] at hk
          obtain ⟨g0, g1, g2⟩ := hcc (fN + k) (by omega)
          have e1 : ((vs.drop fN).map verCs)[k]'(by simpa using hk) = verCs (vs[fN + k]'(by omega)) := by simp
          rw [e1]
          have e2 : off + fN * 3 + k * 3 = off + (fN + k) * 3 := by omega
          rw [e2]
          have hi' : i = 0 ∨ i = 1 ∨ i = 2 := by omega
          rcases hi' with rfl | rfl | rfl
          · exact g0
          · exact g1
          · exact g2
        · exact .inl (by rw [List.drop_of_length_le hge]; rfl)
      have HDD := Lib.hid hD0
      clear hD0 hfin hbB
      gi_wp2
      all_goals refine ⟨by simp, .inl ⟨_, _, rfl, run_takeDeferred hK, ?_⟩⟩
      all_goals exact ⟨_, results_tmp rfl _ _ _, _, _, rfl, HDD.out, HD1.out⟩
  case stop =>
    rintro D c pre W _ _ h _
    exact h.elim

theorem firstN_prs (vs : List (Int × ByteArray × Bool)) (k : Nat) (h : k < vs.length) : firstN (prs vs (k + 1)) = if (vs[k]).2.2 then k + 1 else k := by
  rw [prs_succ vs k h, firstN_snoc]
theorem needed_trim (f : Int) (vs : List (Int × ByteArray × Bool)) (hs : upB tLt vs = true) : firstN (prs vs (leadN f vs)) ≤ vs.length ∧ vs.drop (firstN (prs vs (leadN f vs))) = trimV f vs := by
  induction vs with
  | nil => exact ⟨Nat.le_refl _, rfl⟩
  | cons v r ih =>
    obtain ⟨ih1, ih2⟩ := ih (upB_tail tLt hs)
    rcases trimV_cons f v r hs with ⟨h1, h⟩ | ⟨h1, ⟨u, x, hr, hu⟩, h⟩ | ⟨h1, h2, h⟩
    · have e : leadN f (v :: r) = 0 := by
        have : ¬ v.1 ≤ f := by omega
        simp [leadN, this]
      rw [e, h]
      exact ⟨Nat.zero_le _, rfl⟩
    · obtain ⟨j, hj⟩ : ∃ j, leadN f r = j + 1 := by
        rw [hr]
        exact ⟨leadN f x, by simp [leadN, hu]⟩
      have e : leadN f (v :: r) = j + 1 + 1 := by
        rw [← hj]
        simp [leadN, h1]
      have hjl : j < r.length := by have := leadN_le f r; omega
      have e1 : firstN (prs (v :: r) (j + 1 + 1)) = firstN (prs r (j + 1)) + 1 := by
        rw [firstN_prs (v :: r) (j + 1) (by simpa using hjl), firstN_prs r j hjl, List.getElem_cons_succ]
        split <;> rfl
      rw [hj] at ih1 ih2
      rw [e, e1, h, List.drop_succ_cons, ih2]
      exact ⟨by simpa using ih1, rfl⟩
    · have e0 : leadN f r = 0 := by
        cases r with
        | nil => rfl
        | cons u x =>
          have := h2 u (by simp)
          have hn : ¬ u.1 ≤ f := by omega
          simp [leadN, hn]
      have e : leadN f (v :: r) = 0 + 1 := by
        have : leadN f (v :: r) = leadN f r + 1 := by simp [leadN, h1]
        rw [this, e0]
      rw [e, firstN_prs (v :: r) 0 (by simp), h, List.getElem_cons_zero]
      split
      · exact ⟨by simp, rfl⟩
      · exact ⟨Nat.zero_le _, rfl⟩

/-- What neededFrom hands back: the versions that trimming leaves. -/
def TrimPost (vs : List (Int × ByteArray × Bool)) (f : Int) (B : Nat) (w : World) (e : Ending) (w' : World) : Prop :=
  ∃ A' c', e = .returned (.slice A' (trimV f vs).length c') ∧ VersB w' B A' (trimV f vs) ∧ Below w.heap.size w w'
theorem needed_any (b off n cap B : Nat) (vs : List (Int × ByteArray × Bool)) (f : Int) (w : World) (hn : vs.length = n) (hl : n ≤ 1048576) (hcap : n ≤ cap) (hv : VersB w B (some ⟨b, off, none⟩) vs) (hB : B ≤ w.heap.size) (hup : upB tLt vs = true) :
    Calls Try.prog 80 #[.slice (some ⟨b, off, none⟩) n cap, .int .i64 f] w (TrimPost vs f B w) := by
  subst hn
  obtain ⟨h1, h2⟩ := needed_trim f vs hup
  refine ((callsIn_wide (n := 9)).1 (needed_in Fence.wide 9 trivial trivial trivial rfl (by omega) b off cap B vs f w hl hcap hv hB h1)).mono ?_
  rintro e w' ⟨A', c', he, hv', hb⟩
  rw [h2] at hv'
  have hlen : (trimV f vs).length = vs.length - firstN (prs vs (leadN f vs)) := by rw [← h2, List.length_drop]
  exact ⟨A', c', by rw [hlen]; exact he, hv', hb⟩
end Go.Proofs.Ytcefofgdbmnkdaa
