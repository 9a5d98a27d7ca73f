/-
  Contracts for what recovers: the deferred closure of tryRead, tryRead with the closure of ReadFrame, ReadFrame of program and model.
-/
import Derived.Test.YtcjejbnogghkcaaDk3
import Derived.Defers
import Derived.Recover
import Derived.Laws.Pointers
namespace Go.Proofs.Ytcjejbnogghkcaa.Dk
open Go.RowKit C1
set_option linter.unusedVariables false
set_option linter.unusedSimpArgs false

theorem catch_panicking (p : Addr) (x : Bool) (u : TypeId) (pv : Value) (older : List PanicEntry) (w : World) (hc : w.cell? p = some (.bool x)) (hz : w.frozen? p = false) :
    CallsD Try.prog 70 #[.pointer (some p)] (.panicking ({ v := .iface u pv, recovered := false } :: older)) w fun e u' w' =>
      e = .returned (.tuple #[]) ∧ u' = .panicking ({ v := .iface u pv, recovered := true } :: older) ∧ w' = w.setCell p (.bool false) := by
  refine callsD_of_wpS Try.func70 rfl fun c₀ cs hu => ?_
  apply wpS_region
  simp [wpOpsS, go_sem, recoverD, hu, Try.ntmps70, Exit.thenS, hc, hz, bodyPostS, results, Try.results70]
theorem catch_idle (p : Addr) (x : Bool) (w : World) (hc : w.cell? p = some (.bool x)) (hz : w.frozen? p = false) :
    CallsD Try.prog 70 #[.pointer (some p)] .returning w fun e u' w' => e = .returned (.tuple #[]) ∧ u' = .returning ∧ w' = w.setCell p (.bool true) := by
  refine callsD_of_wpS Try.func70 rfl fun c₀ cs hu => ?_
  apply wpS_region
  simp [wpOpsS, go_sem, recoverD, hu, Try.ntmps70, Exit.thenS, hc, hz, bodyPostS, results, Try.results70]
  cases c₀
  simp_all

/-- All blocks but two are as they were. -/
def Two (w w' : World) (g h : Nat) : Prop := w'.os = w.os ∧ w'.tape = w.tape ∧ w'.output = w.output ∧ w.heap.size ≤ w'.heap.size ∧ ∀ k, k < w.heap.size → k ≠ g → k ≠ h → w'.heap[k]? = w.heap[k]?
section
variable {w w1 w2 : World} {g h B : Nat}
theorem Two.refl (w : World) (g h : Nat) : Two w w g h := ⟨rfl, rfl, rfl, Nat.le_refl _, fun _ _ _ _ => rfl⟩
theorem Two.below (k : Two w w1 g h) (hg : B ≤ g) (hh : B ≤ h) (hw : B ≤ w.heap.size) : Below B w w1 :=
  ⟨k.1, k.2.1, k.2.2.1, k.2.2.2.1, fun i hi => k.2.2.2.2 i (by omega) (by omega) (by omega)⟩
theorem Two.trans (a : Two w w1 g h) (b : Two w1 w2 g h) : Two w w2 g h :=
  ⟨b.1.trans a.1, b.2.1.trans a.2.1, b.2.2.1.trans a.2.2.1, Nat.le_trans a.2.2.2.1 b.2.2.2.1, fun k hk h1 h2 => (b.2.2.2.2 k (Nat.lt_of_lt_of_le hk a.2.2.2.1) h1 h2).trans (a.2.2.2.2 k hk h1 h2)⟩
theorem Two.belowR (a : Two w w1 g h) (b : Below w1.heap.size w1 w2) : Two w w2 g h :=
  ⟨b.os.trans a.1, b.tape.trans a.2.1, b.output.trans a.2.2.1, Nat.le_trans a.2.2.2.1 b.size, fun k hk h1 h2 => (b.block k (Nat.lt_of_lt_of_le hk a.2.2.2.1)).trans (a.2.2.2.2 k hk h1 h2)⟩
theorem Two.ofBelow (b : Below w.heap.size w w2) : Two w w2 g h := (Two.refl w g h).belowR b
theorem Two.set (a : Two w w1 g h) {p : Addr} (hp : p.block = g ∨ p.block = h ∨ w.heap.size ≤ p.block) (u : Value) : Two w (w1.setCell p u) g h :=
  ⟨a.1, a.2.1, a.2.2.1, by simp [World.setCell]; exact a.2.2.2.1, fun k hk h1 h2 => (Below.heap_setCell _ _ _ _ (fun e => by omega)).trans (a.2.2.2.2 k hk h1 h2)⟩
end

theorem closure_yes (g0 g1 g2 g3 : Nat) (b s : ByteArray) (q y : Nat) (w : World) (hb : b.size ≤ 1048576) (hq : q ≤ b.size) (h : fread b q = some (s, y))
    (x2 x3 : Value) (c0 : w.cell? ⟨g0, 0, none⟩ = some (.string b)) (c1 : w.cell? ⟨g1, 0, none⟩ = some (.int .i64 (q : Int))) (c2 : w.cell? ⟨g2, 0, none⟩ = some x2) (c3 : w.cell? ⟨g3, 0, none⟩ = some x3)
    (f2 : w.frozen? ⟨g2, 0, none⟩ = false) (f3 : w.frozen? ⟨g3, 0, none⟩ = false) (l2 : g2 < w.heap.size) (l3 : g3 < w.heap.size) (hne : g2 ≠ g3) :
    Calls Try.prog 52 #[.pointer (some ⟨g0, 0, none⟩), .pointer (some ⟨g1, 0, none⟩), .pointer (some ⟨g2, 0, none⟩), .pointer (some ⟨g3, 0, none⟩)] w fun e w' =>
      e = .returned (.tuple #[]) ∧ w'.cell? ⟨g2, 0, none⟩ = some (.string s) ∧ w'.cell? ⟨g3, 0, none⟩ = some (.int .i64 (y : Int)) ∧ Two w w' g2 g3 := by
  have HF := Lib.hid (fun W => frameAt_yes b s q y W hb hq h)
  have hne' : g3 ≠ g2 := fun e => hne e.symm
  clear h
  go_enter Try.func52, Try.ntmps52
  go_wp2_with fail
  refine (HF.out _).mono ?_
  rintro e w1 ⟨rfl, hb1⟩
  have d2 := (hb1.cell (p := ⟨g2, 0, none⟩) l2).trans c2
  have d3 := (hb1.cell (p := ⟨g3, 0, none⟩) l3).trans c3
  have e2 := (hb1.frozen (p := ⟨g2, 0, none⟩) l2).trans f2
  have e3 := (hb1.frozen (p := ⟨g3, 0, none⟩) l3).trans f3
  have HB1 := Lib.hid hb1
  clear c0 c1 c2 c3 f2 f3 hb1
  go_wp2
  go_end0
  exact ⟨rfl, by simp [go_sem, d2, hne], by simp [go_sem, d3, hne'], ((Two.ofBelow HB1.out).set (.inl rfl) _).set (.inr (.inl rfl)) _⟩
theorem closure_no (g0 g1 g2 g3 : Nat) (b : ByteArray) (q : Nat) (w : World) (hb : b.size ≤ 1048576) (hq : q ≤ b.size) (h : fread b q = none)
    (c0 : w.cell? ⟨g0, 0, none⟩ = some (.string b)) (c1 : w.cell? ⟨g1, 0, none⟩ = some (.int .i64 (q : Int))) :
    Calls Try.prog 52 #[.pointer (some ⟨g0, 0, none⟩), .pointer (some ⟨g1, 0, none⟩), .pointer (some ⟨g2, 0, none⟩), .pointer (some ⟨g3, 0, none⟩)] w fun e w' =>
      e = .panicked bad ∧ Below w.heap.size w w' := by
  have HF := Lib.hid (fun W => frameAt_no b q W hb hq h)
  clear h
  go_enter Try.func52, Try.ntmps52
  go_wp2_with fail
  refine (HF.out _).mono ?_
  rintro e w1 ⟨rfl, hb1⟩
  have HB1 := Lib.hid hb1
  clear hb1
  go_wp2
  exact ⟨rfl, rfl, HB1.out⟩

theorem try_yes (g0 g1 g2 g3 : Nat) (b s : ByteArray) (q y : Nat) (w : World) (hb : b.size ≤ 1048576) (hq : q ≤ b.size) (h : fread b q = some (s, y))
    (x2 x3 : Value) (c0 : w.cell? ⟨g0, 0, none⟩ = some (.string b)) (c1 : w.cell? ⟨g1, 0, none⟩ = some (.int .i64 (q : Int))) (c2 : w.cell? ⟨g2, 0, none⟩ = some x2) (c3 : w.cell? ⟨g3, 0, none⟩ = some x3)
    (f2 : w.frozen? ⟨g2, 0, none⟩ = false) (f3 : w.frozen? ⟨g3, 0, none⟩ = false) (l0 : g0 < w.heap.size) (l1 : g1 < w.heap.size) (l2 : g2 < w.heap.size) (l3 : g3 < w.heap.size) (hne : g2 ≠ g3) :
    Calls Try.prog 51 #[.func (.func 52) #[] #[.pointer (some ⟨g0, 0, none⟩), .pointer (some ⟨g1, 0, none⟩), .pointer (some ⟨g2, 0, none⟩), .pointer (some ⟨g3, 0, none⟩)]] w fun e w' =>
      e = .returned (.bool true) ∧ w'.cell? ⟨g2, 0, none⟩ = some (.string s) ∧ w'.cell? ⟨g3, 0, none⟩ = some (.int .i64 (y : Int)) ∧ Two w w' g2 g3 := by
  have hmf : ∀ (fn : Fn) (first cap : Array Value) (w : World), (Instr.makeFunc fn first cap).run Try.prog w = .ok (.func fn first cap) w := fun _ _ _ _ => rfl
  have hb0 := below1 w (.cells #[.bool false] 4)
  have HC := Lib.hid (closure_yes g0 g1 g2 g3 b s q y (w.alloc (.cells #[.bool false] 4)) hb hq h x2 x3 ((hb0.cell (p := ⟨g0, 0, none⟩) l0).trans c0) ((hb0.cell (p := ⟨g1, 0, none⟩) l1).trans c1) ((hb0.cell (p := ⟨g2, 0, none⟩) l2).trans c2) ((hb0.cell (p := ⟨g3, 0, none⟩) l3).trans c3) ((hb0.frozen (p := ⟨g2, 0, none⟩) l2).trans f2) ((hb0.frozen (p := ⟨g3, 0, none⟩) l3).trans f3) (by simp; omega) (by simp; omega) hne)
  have hn := heap_alloc_new w (.cells #[.bool false] 4)
  have HB0 := Lib.hid hb0
  have HN := Lib.hid hn
  have HL2 := Lib.hid l2
  have HL3 := Lib.hid l3
  have HNE := Lib.hid hne
  clear h c0 c1 c2 c3 f2 f3 hb0 hn l0 l1 l2 l3 hne
  go_enter_defers Try.func51, Try.ntmps51
  go_wp2_with fail
  refine HC.out.mono ?_
  rintro e w2 ⟨rfl, k2, k3, hT⟩
  have hl2 := HL2.out
  have hl3 := HL3.out
  have hk := (hT.2.2.2.2 w.heap.size (by simp) (by omega) (by omega)).trans HN.out
  have k0 : w2.cell? ⟨w.heap.size, 0, none⟩ = some (.bool false) := cell_of_row _ _ 0 _ 4 (0, 0) hk
  have kf : w2.frozen? ⟨w.heap.size, 0, none⟩ = false := by simp [World.frozen?, hk]
  have hT2 : Two w w2 g2 g3 := ((Two.ofBelow HB0.out).trans hT)
  have HT := Lib.hid hT2
  clear hT hT2 hk
  go_wp2
  refine leaves_cons (f := 70) (args := #[.pointer (some ⟨w.heap.size, 0, none⟩)]) (by simp) (by simp [go_sem]) ?_
  refine (catch_idle ⟨w.heap.size, 0, none⟩ true _ ?_ ?_).mono ?_
  · simp [go_sem, k0]
  · rw [World.frozen?_setCell]; exact kf
  rintro e u' w'' ⟨rfl, rfl, rfl⟩
  simp [Leaves, settle, results, Try.results51, go_sem, k0, k2, k3]
  exact (HT.out.set (.inr (.inr (Nat.le_refl _))) _).set (.inr (.inr (Nat.le_refl _))) _

theorem try_no (g0 g1 g2 g3 : Nat) (b : ByteArray) (q : Nat) (w : World) (hb : b.size ≤ 1048576) (hq : q ≤ b.size) (h : fread b q = none)
    (c0 : w.cell? ⟨g0, 0, none⟩ = some (.string b)) (c1 : w.cell? ⟨g1, 0, none⟩ = some (.int .i64 (q : Int))) (l0 : g0 < w.heap.size) (l1 : g1 < w.heap.size) :
    Calls Try.prog 51 #[.func (.func 52) #[] #[.pointer (some ⟨g0, 0, none⟩), .pointer (some ⟨g1, 0, none⟩), .pointer (some ⟨g2, 0, none⟩), .pointer (some ⟨g3, 0, none⟩)]] w fun e w' =>
      e = .returned (.bool false) ∧ Below w.heap.size w w' := by
  have hmf : ∀ (fn : Fn) (first cap : Array Value) (w : World), (Instr.makeFunc fn first cap).run Try.prog w = .ok (.func fn first cap) w := fun _ _ _ _ => rfl
  have hb0 := below1 w (.cells #[.bool false] 4)
  have HC := Lib.hid (closure_no g0 g1 g2 g3 b q (w.alloc (.cells #[.bool false] 4)) hb hq h ((hb0.cell (p := ⟨g0, 0, none⟩) l0).trans c0) ((hb0.cell (p := ⟨g1, 0, none⟩) l1).trans c1))
  have hn := heap_alloc_new w (.cells #[.bool false] 4)
  have HB0 := Lib.hid hb0
  have HN := Lib.hid hn
  unfold bad at HC
  clear h c0 c1 hb0 hn l0 l1
  go_enter_defers Try.func51, Try.ntmps51
  go_wp2_with fail
  refine HC.out.mono ?_
  rintro e w2 ⟨rfl, hb2⟩
  have hk := (hb2.block w.heap.size (by simp)).trans HN.out
  have k0 : w2.cell? ⟨w.heap.size, 0, none⟩ = some (.bool false) := cell_of_row _ _ 0 _ 4 (0, 0) hk
  have kf : w2.frozen? ⟨w.heap.size, 0, none⟩ = false := by simp [World.frozen?, hk]
  have HT := Lib.hid (HB0.out.trans (hb2.mono HB0.out.size))
  clear hb2 hk
  go_wp2
  refine leaves_cons (f := 70) (args := #[.pointer (some ⟨w.heap.size, 0, none⟩)]) (by simp) (by simp [go_sem]) ?_
  refine (catch_panicking ⟨w.heap.size, 0, none⟩ false 9 _ [] _ k0 kf).mono ?_
  rintro e u' w'' ⟨rfl, rfl, rfl⟩
  simp [Leaves, settle, results, Try.results51, go_sem, k0]
  exact HT.out.setCell (p := ⟨w.heap.size, 0, none⟩) (Nat.le_refl _) _

theorem free_row {w : World} {g : Nat} {cs : Array Value} {T : TypeId} (h : w.heap[g]? = some (.cells cs T (0, 0))) (i : Nat) : w.frozen? ⟨g, i, none⟩ = false := by simp [World.frozen?, h]
theorem alloc4 (w : World) (a b c d : Obj) : ((((w.alloc a).alloc b).alloc c).alloc d).heap[w.heap.size]? = some a ∧ ((((w.alloc a).alloc b).alloc c).alloc d).heap[w.heap.size + 1]? = some b ∧ ((((w.alloc a).alloc b).alloc c).alloc d).heap[w.heap.size + 2]? = some c ∧ ((((w.alloc a).alloc b).alloc c).alloc d).heap[w.heap.size + 3]? = some d ∧ ((((w.alloc a).alloc b).alloc c).alloc d).heap.size = w.heap.size + 4 ∧ Below w.heap.size w ((((w.alloc a).alloc b).alloc c).alloc d) := by
  have h1 := heap_alloc_new w a
  have h2 := heap_alloc_new (w.alloc a) b
  have h3 := heap_alloc_new ((w.alloc a).alloc b) c
  have h4 := heap_alloc_new (((w.alloc a).alloc b).alloc c) d
  simp only [World.size_alloc] at h2 h3 h4
  refine ⟨?_, ?_, ?_, h4, by simp, (below3 w a b c).alloc (by simp; omega) d⟩
  · rw [Below.heap_alloc _ _ _ (by simp; omega), Below.heap_alloc _ _ _ (by simp; omega), Below.heap_alloc _ _ _ (by simp)]; exact h1
  · rw [Below.heap_alloc _ _ _ (by simp), Below.heap_alloc _ _ _ (by simp)]; exact h2
  · rw [Below.heap_alloc _ _ _ (by simp)]; exact h3

/-- What ReadFrame hands back. -/
def readF (b : ByteArray) (q : Nat) : ByteArray × Nat × Bool := match fread b q with
  | some (s, y) => (s, y, true)
  | none => (⟨#[]⟩, 0, false)
def RAns (r : ByteArray × Nat × Bool) : Ending := .returned (.tuple #[.string r.1, .int .i64 (r.2.1 : Int), .bool r.2.2])
def Spot (b : ByteArray) (q : Int) : Prop := b.size ≤ 50000 ∧ 0 ≤ q ∧ q ≤ b.size

set_option maxRecDepth 100000 in
set_option maxHeartbeats 1000000 in
theorem implReadF_no (b : ByteArray) (q : Int) (w : World) (hm : b.size ≤ maxLen) (h : ¬ Spot b q) :
    Calls Try.prog 20 #[.string b, .int .i64 q] w fun e w' => e = .returned (.tuple #[.string ⟨#[]⟩, .int .i64 0, .bool false]) ∧ Below w.heap.size w w' := by
  unfold maxLen at hm
  by_cases h1 : b.size ≤ 50000
  · by_cases h2 : 0 ≤ q
    · have h3 : (b.size : Int) < q := by
        unfold Spot at h
        omega
      clear h
      go_enter Try.func20, Try.ntmps20
      go_wp2
      go_ret3
      exact ⟨rfl, below2 _ _ _⟩
    · have h3 : q < 0 := by omega
      clear h h2
      go_enter Try.func20, Try.ntmps20
      go_wp2
      go_ret3
      exact ⟨rfl, below2 _ _ _⟩
  · have h3 : (50000 : Int) < (b.size : Int) := by omega
    clear h h1
    go_enter Try.func20, Try.ntmps20
    go_wp2
    go_ret3
    exact ⟨rfl, below2 _ _ _⟩
set_option maxRecDepth 100000 in
set_option maxHeartbeats 1000000 in
theorem implReadF_yes (b : ByteArray) (q : Nat) (w : World) (h : Spot b q) :
    Calls Try.prog 20 #[.string b, .int .i64 (q : Int)] w fun e w' => e = RAns (readF b q) ∧ Below w.heap.size w w' := by
  have h1 := h.1
  have h2 : q ≤ b.size := by have := h.2.2; omega
  have h3 : (q : Int) ≤ (b.size : Int) := by omega
  have h0 : (0 : Int) ≤ (q : Int) := by omega
  have n0 := alloc4 w (.cells #[.string b] 9) (.cells #[.int .i64 (q : Int)] 3) (.cells #[.string ⟨#[]⟩] 9) (.cells #[.int .i64 0] 3)
  obtain ⟨a0, a1, a2, a3, asz, abel⟩ := n0
  have A0 := Lib.hid a0
  have A1 := Lib.hid a1
  have A2 := Lib.hid a2
  have A3 := Lib.hid a3
  have ASZ := Lib.hid asz
  have AB := Lib.hid abel
  cases hf : fread b q with
  | none =>
    have HA := Lib.hid (show RAns (readF b q) = .returned (.tuple #[.string ⟨#[]⟩, .int .i64 0, .bool false]) by unfold readF; rw [hf]; rfl)
    have HT := Lib.hid (try_no w.heap.size (w.heap.size + 1) (w.heap.size + 1 + 1) (w.heap.size + 1 + 1 + 1) b q _ (by omega) h2 hf (cell_of_row _ _ 0 _ 9 (0, 0) A0.out) (cell_of_row _ _ 0 _ 3 (0, 0) A1.out) (by rw [ASZ.out]; omega) (by rw [ASZ.out]; omega))
    clear h hf a0 a1 a2 a3 asz abel
    go_enter Try.func20, Try.ntmps20
    go_wp2_with fail
    refine HT.out.mono ?_
    rintro e w5 ⟨rfl, hb5⟩
    have c2 : w5.cell? ⟨w.heap.size + 1 + 1, 0, none⟩ = some (.string ⟨#[]⟩) := (hb5.cell (p := ⟨w.heap.size + 1 + 1, 0, none⟩) (show w.heap.size + 1 + 1 < _ by rw [ASZ.out]; omega)).trans (cell_of_row _ _ 0 _ 9 (0, 0) A2.out)
    have c3 : w5.cell? ⟨w.heap.size + 1 + 1 + 1, 0, none⟩ = some (.int .i64 0) := (hb5.cell (p := ⟨w.heap.size + 1 + 1 + 1, 0, none⟩) (show w.heap.size + 1 + 1 + 1 < _ by rw [ASZ.out]; omega)).trans (cell_of_row _ _ 0 _ 3 (0, 0) A3.out)
    have HB := Lib.hid (AB.out.trans (hb5.mono AB.out.size))
    clear hb5
    go_wp2_with fail
    go_quiet (fail)
    go_wp2
    go_ret3
    exact ⟨HA.out.symm, below_drewN HB.out _⟩
  | some p =>
    obtain ⟨s, y⟩ := p
    have HA := Lib.hid (show RAns (readF b q) = .returned (.tuple #[.string s, .int .i64 (y : Int), .bool true]) by unfold readF; rw [hf]; rfl)
    have HT := Lib.hid (try_yes w.heap.size (w.heap.size + 1) (w.heap.size + 1 + 1) (w.heap.size + 1 + 1 + 1) b s q y _ (by omega) h2 hf _ _ (cell_of_row _ _ 0 _ 9 (0, 0) A0.out) (cell_of_row _ _ 0 _ 3 (0, 0) A1.out) (cell_of_row _ _ 0 _ 9 (0, 0) A2.out) (cell_of_row _ _ 0 _ 3 (0, 0) A3.out) (free_row A2.out 0) (free_row A3.out 0) (by rw [ASZ.out]; omega) (by rw [ASZ.out]; omega) (by rw [ASZ.out]; omega) (by rw [ASZ.out]; omega) (by omega))
    clear h hf a0 a1 a2 a3 asz abel
    go_enter Try.func20, Try.ntmps20
    go_wp2_with fail
    refine HT.out.mono ?_
    rintro e w5 ⟨rfl, c2, c3, hT⟩
    have HB := Lib.hid (AB.out.trans (hT.below (B := w.heap.size) (by omega) (by omega) AB.out.size))
    clear hT
    go_wp2_with fail
    go_quiet (fail)
    go_wp2
    go_ret3
    exact ⟨HA.out.symm, below_drewN HB.out _⟩

set_option maxRecDepth 100000 in
set_option maxHeartbeats 1000000 in
theorem specReadF_no (b : ByteArray) (q : Int) (w : World) (hm : b.size ≤ maxLen) (h : ¬ Spot b q) :
    Calls Try.prog 40 #[.string b, .int .i64 q] w fun e w' => e = .returned (.tuple #[.string ⟨#[]⟩, .int .i64 0, .bool false]) ∧ Below w.heap.size w w' := by
  unfold maxLen at hm
  by_cases h1 : b.size ≤ 50000
  · have HI := Lib.hid (fun W => l1In_no q 0 b.size W (by unfold Spot at h; omega))
    have h3 : (b.size : Int) ≤ 50000 := by omega
    clear h
    go_enter Try.func40, Try.ntmps40
    go_wp2_with fail
    refine (HI.out _).mono ?_
    rintro e w1 ⟨rfl, rfl⟩
    go_wp2
    go_ret3
    exact ⟨rfl, Below.refl _ _⟩
  · have h3 : (50000 : Int) < (b.size : Int) := by omega
    clear h h1
    go_enter Try.func40, Try.ntmps40
    go_wp2
    go_ret3
    exact ⟨rfl, Below.refl _ _⟩
set_option maxRecDepth 100000 in
set_option maxHeartbeats 1000000 in
theorem specReadF_yes (b : ByteArray) (q : Nat) (w : World) (h : Spot b q) :
    Calls Try.prog 40 #[.string b, .int .i64 (q : Int)] w fun e w' => e = RAns (readF b q) ∧ Below w.heap.size w w' := by
  have h1 := h.1
  have h2 : q ≤ b.size := by have := h.2.2; omega
  have h3 : (b.size : Int) ≤ 50000 := by omega
  have HI := Lib.hid (fun W => l1In_yes (q : Int) 0 b.size W (by omega) (by omega))
  have HR := Lib.hid (fun W => l6Read_any b q W (by omega) h2)
  cases hf : fread b q with
  | none =>
    have HA := Lib.hid (show RAns (readF b q) = .returned (.tuple #[.string ⟨#[]⟩, .int .i64 0, .bool false]) by unfold readF; rw [hf]; rfl)
    rw [hf] at HR
    simp only [l6Ans] at HR
    clear h hf
    go_enter Try.func40, Try.ntmps40
    go_wp2_with fail
    refine (HI.out _).mono ?_
    rintro e w1 ⟨rfl, rfl⟩
    go_wp2_with fail
    refine (HR.out _).mono ?_
    rintro e w2 ⟨rfl, hb2⟩
    have HB := Lib.hid hb2
    clear hb2
    go_wp2
    go_ret3
    exact ⟨HA.out.symm, HB.out⟩
  | some p =>
    obtain ⟨s, y⟩ := p
    have HA := Lib.hid (show RAns (readF b q) = .returned (.tuple #[.string s, .int .i64 (y : Int), .bool true]) by unfold readF; rw [hf]; rfl)
    rw [hf] at HR
    simp only [l6Ans] at HR
    have hy : (0 : Int) ≤ (y : Int) := by omega
    clear h hf
    go_enter Try.func40, Try.ntmps40
    go_wp2_with fail
    refine (HI.out _).mono ?_
    rintro e w1 ⟨rfl, rfl⟩
    go_wp2_with fail
    refine (HR.out _).mono ?_
    rintro e w2 ⟨rfl, hb2⟩
    have HB := Lib.hid hb2
    clear hb2
    go_wp2
    go_ret3
    exact ⟨HA.out.symm, HB.out⟩

set_option maxRecDepth 100000 in
set_option maxHeartbeats 1000000 in
theorem readFrame_walk (w : World) (b : ByteArray) (hb : b.size ≤ maxLen) (q : Int) (hq : (Lit.int .i64 q).wf = true) :
    Calls Try.prog 9 #[.string b, .int .i64 q] w fun e w' => e = .returned (.bool true) ∧ Below w.heap.size w w' := by
  by_cases h : b.size ≤ 1048576
  · have hs : (b.size : Int) ≤ 1048576 := by omega
    by_cases hp : Spot b q
    · obtain ⟨n, rfl⟩ : ∃ n : Nat, q = n := ⟨q.toNat, by have := hp.2.1; omega⟩
      have HS := Lib.hid (fun W => specReadF_yes b n W hp)
      have HI := Lib.hid (fun W => implReadF_yes b n W hp)
      obtain ⟨⟨s, y, ok⟩, hr⟩ : ∃ r, r = readF b n := ⟨_, rfl⟩
      rw [← hr] at HS HI
      simp only [RAns] at HS HI
      clear hr hp h hb hq
      go_enter Try.func9, Try.ntmps9
      go_wp2_with fail
      refine (HS.out _).mono ?_
      rintro e w1 ⟨rfl, hb1⟩
      go_wp2_with fail
      refine (HI.out _).mono ?_
      rintro e w2 ⟨rfl, hb2⟩
      have B := Lib.hid (hb1.trans (hb2.mono hb1.size))
      clear hb1 hb2
      go_wp2
      go_ret
      exact ⟨rfl, B.out⟩
    · have HS := Lib.hid (fun W => specReadF_no b q W hb hp)
      have HI := Lib.hid (fun W => implReadF_no b q W hb hp)
      clear hp h hb hq
      go_enter Try.func9, Try.ntmps9
      go_wp2_with fail
      refine (HS.out _).mono ?_
      rintro e w1 ⟨rfl, hb1⟩
      go_wp2_with fail
      refine (HI.out _).mono ?_
      rintro e w2 ⟨rfl, hb2⟩
      have B := Lib.hid (hb1.trans (hb2.mono hb1.size))
      clear hb1 hb2
      go_wp2
      go_ret
      exact ⟨rfl, B.out⟩
  · unfold maxLen at hb
    have h1 : (1048576 : Int) < (b.size : Int) := by omega
    clear h hq
    go_enter Try.func9, Try.ntmps9
    go_wp2
    go_ret
    exact ⟨rfl, Below.refl _ _⟩
end Go.Proofs.Ytcjejbnogghkcaa.Dk
