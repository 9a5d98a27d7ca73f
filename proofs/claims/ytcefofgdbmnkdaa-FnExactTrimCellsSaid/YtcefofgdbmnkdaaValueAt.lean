/-
  Contracts for the lookup among versions at a time: valueAt of the program.
-/
import Derived.Test.YtcefofgdbmnkdaaUpTo
namespace Go.Proofs.Ytcefofgdbmnkdaa
open Go.RowKit Go.Shelf CM
set_option linter.unusedVariables false

attribute [local go_sem] Oper.semAt_some

/-- A version in a block. -/
def Box3 (W : World) (B : Nat) (v : (Int × ByteArray × Bool)) : Prop := W.heap[B]? = some (.cells #[.int .i64 v.1, .string v.2.1, .bool v.2.2] 83 (0, 0))
theorem Box3.new (W : World) (t : Int) (s : ByteArray) (g : Bool) : Box3 (W.alloc (.cells #[.int .i64 t, .string s, .bool g] 83)) W.heap.size (t, s, g) := heap_alloc_new W _
theorem Box3.kept {W W' : World} {row : Option Nat} {B : Nat} {v : (Int × ByteArray × Bool)} (h : Box3 W B v) (hg : W.grownBy W' row) (hrow : ∀ r, row = some r → ∃ o : Obj, W.heap[r]? = some o ∧ o.isCells = false) : Box3 W' B v := by
  refine (hg.block B (Array.getElem?_eq_some_iff.1 h).1 fun e => ?_).trans h
  obtain ⟨o, ho, hc⟩ := hrow B e.symm
  rw [show W.heap[B]? = _ from h] at ho
  cases ho
  cases hc

/-- What is known when some versions have come: the last one's value. -/
def seenV (pre : List (Nat × (Int × ByteArray × Bool))) : ByteArray × Bool := match pre.getLast? with | some x => (x.2.2.1, !x.2.2.2) | none => (ByteArray.empty, false)
theorem seenV_snoc (pre : List (Nat × (Int × ByteArray × Bool))) (x : Nat × (Int × ByteArray × Bool)) : seenV (pre ++ [x]) = (x.2.2.1, !x.2.2.2) := by simp [seenV]

set_option maxRecDepth 100000 in
set_option maxHeartbeats 4000000 in
theorem valueAt_in (F : Fence) (n : Nat) (h0 : F.fn 68) (h1 : F.fn 104) (h2 : F.fn 117) (hro : F.round = none) (hn : 3 ≤ n) (A : Option Addr) (cap B : Nat) (vs : List (Int × ByteArray × Bool)) (t : Int) (w : World) (hl : vs.length ≤ 1048576) (hv : VersB w B A vs) (hB : B ≤ w.heap.size) :
    CallsIn F n Try.prog 68 #[.slice A vs.length cap, .int .i64 t] w fun e W' => e = .returned (.tuple #[.string (seenV (prs vs (leadN t vs))).1, .bool (seenV (prs vs (leadN t vs))).2]) ∧ Below w.heap.size w W' := by
  have hn1 : 1 ≤ n := by omega
  refine callsIn_of_wp_marks Try.func68 rfl h0 ?_ hro
  simp only [Try.ntmps68, List.size_toArray, List.length_cons, List.length_nil, Nat.reduceAdd, Nat.reduceSub, Array.replicate_succ, Array.replicate_zero, List.push_toArray, List.append_toArray, List.nil_append, List.cons_append]
  gi_wp2_with (gi_at_call 104; refine (upTo_in F (n - 1) h1 hro _ _ _ _ _).mono ?_; rintro e w' ⟨rfl, rfl⟩)
  have bS := (((Boxed.new w 9 (.string ⟨#[]⟩)).alloc (.cells #[.bool false] 4)).alloc (.cells #[.slice A vs.length cap] 79)).alloc (.cells #[.int .i64 t] 3)
  have bG := ((Boxed.new (w.alloc (.cells #[.string ⟨#[]⟩] 9)) 4 (.bool false)).alloc (.cells #[.slice A vs.length cap] 79)).alloc (.cells #[.int .i64 t] 3)
  have bV := (Boxed.new ((w.alloc (.cells #[.string ⟨#[]⟩] 9)).alloc (.cells #[.bool false] 4)) 79 (.slice A vs.length cap)).alloc (.cells #[.int .i64 t] 3)
  have bT := Boxed.new (((w.alloc (.cells #[.string ⟨#[]⟩] 9)).alloc (.cells #[.bool false] 4)).alloc (.cells #[.slice A vs.length cap] 79)) 3 (.int .i64 t)
  simp only [World.size_alloc] at bG bV bT
  have hB0 : Below w.heap.size w ((((w.alloc (.cells #[.string ⟨#[]⟩] 9)).alloc (.cells #[.bool false] 4)).alloc (.cells #[.slice A vs.length cap] 79)).alloc (.cells #[.int .i64 t] 3)) := (below3 _ _ _ _).alloc (by simp; omega) _
  have hsz : ((((w.alloc (.cells #[.string ⟨#[]⟩] 9)).alloc (.cells #[.bool false] 4)).alloc (.cells #[.slice A vs.length cap] 79)).alloc (.cells #[.int .i64 t] 3)).heap.size = w.heap.size + 4 := by simp
  obtain ⟨W0, hW0⟩ : ∃ W0, (((w.alloc (.cells #[.string ⟨#[]⟩] 9)).alloc (.cells #[.bool false] 4)).alloc (.cells #[.slice A vs.length cap] 79)).alloc (.cells #[.int .i64 t] 3) = W0 := ⟨_, rfl⟩
  rw [hW0] at bS bG bV bT hB0 hsz ⊢
  clear hW0
  refine wpIn_rangeFunc_ownH hro hn1 (gf := 117) (lb := #[.pointer (some ⟨w.heap.size + 1 + 1, 0, none⟩), .pointer (some ⟨w.heap.size + 1 + 1 + 1, 0, none⟩)]) rfl h2 (enters_of Try.func117 (by kernel_rfl) rfl)
    (upTo_stops F (n - 1) h2 hro (by omega) (w.heap.size + 1 + 1) (w.heap.size + 1 + 1 + 1) w.heap.size A cap B vs t hl hB W0 bV bT (hv.below (hB0.mono hB)) (by omega)) (fun h k => h.trans k) (kpV_b (by omega) (by omega)) (Below.refl _ _) (fun _ => rfl)
    (fun pre W => (Boxed W w.heap.size 9 (.string (seenV pre).1) ∧ Boxed W (w.heap.size + 1) 4 (.bool (seenV pre).2)) ∧ (Below w.heap.size w W ∧ w.heap.size + 4 ≤ W.heap.size))
    (fun _ _ _ => False)
    (OwnFrom.and (OwnFrom.and (Own.from (boxed_own _ _ _) _) (Own.from (boxed_own _ _ _) _)) (OwnFrom.and (ownFrom_below (Nat.le_refl _) (by omega)) (fun s X Y row hs hg hr => Nat.le_trans hs hg.size)))
    (fun _ _ _ _ _ hs _ _ => hs)
    ⟨⟨bS, bG⟩, hB0, by omega⟩
    (fun x a' W => ∃ Bx, w.heap.size + 4 ≤ Bx ∧ Box3 W Bx x.2 ∧ a' = { tmps := #[.slice A vs.length cap, .int .i64 t, undef, undef, .string ⟨#[]⟩, .bool false, .pointer (some ⟨w.heap.size, 0, none⟩), .pointer (some ⟨w.heap.size + 1, 0, none⟩), undef, .pointer (some ⟨Bx, 0, none⟩), .slice A vs.length cap, .int .i64 t, .func (.func 117) #[] #[.pointer (some ⟨w.heap.size + 1 + 1, 0, none⟩), .pointer (some ⟨w.heap.size + 1 + 1 + 1, 0, none⟩)], .int .i64 (x.1 : Int), .agg #[.int .i64 x.2.1, .string x.2.2.1, .bool x.2.2.2], undef, undef, undef, undef, undef, undef, undef], defers := [] })
    (fun x a' _ X Y row hs hg hr => by obtain ⟨Bx, e1, e2, e3⟩ := hs; exact ⟨Bx, e1, e2.kept hg (fun r e => (hr r e).2), e3⟩)
    ?assign ?body ?done ?stop
  case assign =>
    rintro l pre x W K ⟨⟨bS1, bG1⟩, hB1, hs1⟩ hK
    unfold encV
    gi_wp2
    exact hK _ _ ((KeepsOthers.alloc _ _).from _) ((KpV.refl _ _ W).alloc hB1.size (by omega) _) ⟨⟨bS1.alloc _, bG1.alloc _⟩, hB1.alloc hB1.size _, by simp; omega⟩ ⟨W.heap.size, by omega, Box3.new W _ _ _, rfl⟩
  case body =>
    rintro l pre x a' W hlW _ ⟨⟨bS1, bG1⟩, hB1, hs1⟩ ⟨Bx, hBx, bX, rfl⟩ hlt
    have x1 := cell_blk (i := 1) (show W.heap[Bx]? = _ from bX) rfl
    have x2 := cell_blk (i := 2) (show W.heap[Bx]? = _ from bX) rfl
    have cS := bS1.cell
    have fS := bS1.frozen
    have cG := bG1.cell
    have fG := bG1.frozen
    have hne1 : Bx ≠ w.heap.size := by omega
    have hne2 : Bx ≠ w.heap.size + 1 := by omega
    have hmx : Try.prog.follows .mixedOrders = true := by kernel_rfl
    gi_wp2
    gi_region_o
    all_goals gi_wp2
    all_goals exact ⟨((KeepsOthers.setCell _ _ _).trans ((KeepsOthers.setCell _ _ _).trans (KeepsOthers.drew _))).from _,
      ⟨(((Below.refl w.heap.size W).setCell (p := ⟨w.heap.size, 0, none⟩) (Nat.le_refl _) _).setCell (p := ⟨w.heap.size + 1, 0, none⟩) (Nat.le_succ _) _).drew,
        (Below.heap_setCell _ ⟨w.heap.size + 1, 0, none⟩ _ (w.heap.size + 1 + 1 + 1) (show w.heap.size + 1 + 1 + 1 ≠ w.heap.size + 1 by omega)).trans (Below.heap_setCell _ ⟨w.heap.size, 0, none⟩ _ (w.heap.size + 1 + 1 + 1) (show w.heap.size + 1 + 1 + 1 ≠ w.heap.size by omega))⟩,
      ⟨by rw [seenV_snoc]; exact (bS1.set (.string x.2.2.1)).other (B' := w.heap.size + 1) (by omega) (.bool !x.2.2.2), by rw [seenV_snoc]; exact (bG1.other (B' := w.heap.size) (by omega) (.string x.2.2.1)).set (.bool !x.2.2.2)⟩,
      (((hB1.setCell (p := ⟨w.heap.size, 0, none⟩) (Nat.le_refl _) _).setCell (p := ⟨w.heap.size + 1, 0, none⟩) (Nat.le_succ _) _)).drew, by simpa [World.setCell, World.drew] using hs1⟩
  case done =>
    rintro D zs W hD rfl ⟨⟨bS1, bG1⟩, hB1, hs1⟩ hK
    have cS := bS1.cell
    have cG := bG1.cell
    have hmx : Try.prog.follows .mixedOrders = true := by kernel_rfl
    gi_wp2
    gi_region_o
    all_goals gi_wp2
    all_goals
      have hK' : W.drew.heap[D]? = some (.deferred (some [])) := hK
      refine ⟨by simp, .inl ⟨_, _, rfl, run_takeDeferred hK', ?_⟩⟩
      exact ⟨.tuple #[.string (seenV (prs vs (leadN t vs))).1, .bool (seenV (prs vs (leadN t vs))).2], by simp [results, Try.f68, go_sem], rfl, hB1.drew.trans (belowK_b (w := w) (Nat.le_refl _) W.drew D _ _ (by omega) hK' rfl rfl)⟩
  case stop =>
    rintro D c pre W _ _ h _
    exact h.elim

theorem seenV_look (t : Int) (vs : List (Int × ByteArray × Bool)) (hup : upB tLt vs = true) : seenV (prs vs (leadN t vs)) = lookV vs t := by
  have hf : vs.filter (fun v => decide (v.1 ≤ t)) = vs.take (leadN t vs) := by
    induction vs with
    | nil => rfl
    | cons v r ih =>
      by_cases hv : v.1 ≤ t
      · rw [List.filter_cons_of_pos (by simpa using hv), ih (upB_tail tLt hup)]
        simp [leadN, hv]
      · have hnone : (v :: r).filter (fun v => decide (v.1 ≤ t)) = [] := by
          rw [List.filter_eq_nil_iff]
          intro x hx
          rcases List.mem_cons.1 hx with rfl | hx
          · simpa using hv
          · have h1 := upB_head tLt tLt_trans hup x hx
            simp only [tLt, decide_eq_true_eq] at h1
            simp only [decide_eq_true_eq]
            omega
        rw [hnone]
        simp [leadN, hv]
  have hlast : (prs vs (leadN t vs)).getLast?.map Prod.snd = (vs.take (leadN t vs)).getLast? := by
    have hle := leadN_le t vs
    cases hK : leadN t vs with
    | zero => simp [prs]
    | succ k =>
      rw [hK] at hle
      rw [prs_succ vs k (by omega), List.getLast?_concat, List.take_succ_eq_append_getElem (show k < vs.length by omega), List.getLast?_concat]
      rfl
  unfold lookV verAt seenV
  rw [hf, ← hlast]
  cases h : (prs vs (leadN t vs)).getLast? with
  | none => rfl
  | some x => rfl

theorem valueAt_any (A : Option Addr) (n cap B : Nat) (vs : List (Int × ByteArray × Bool)) (t : Int) (w : World) (hn : vs.length = n) (hl : n ≤ 1048576) (hv : VersB w B A vs) (hB : B ≤ w.heap.size) (hup : upB tLt vs = true) :
    Calls Try.prog 68 #[.slice A n cap, .int .i64 t] w fun e W' => e = .returned (.tuple #[.string (lookV vs t).1, .bool (lookV vs t).2]) ∧ Below w.heap.size w W' := by
  subst hn
  rw [← seenV_look t vs hup]
  exact (callsIn_wide (n := 9)).1 (valueAt_in Fence.wide 9 trivial trivial trivial rfl (by omega) A cap B vs t w hl hv hB)
end Go.Proofs.Ytcefofgdbmnkdaa
