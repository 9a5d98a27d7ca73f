/-
  Contracts for the program's reader of parts: readPart at numbers, texts and lists of texts; num, flag, text.
-/
import Derived.Test.YtkhndofplebcaaaRdM
import Derived.Test.YtkhndofplebcaaaBel
namespace Go.Proofs.Ytkhndofplebcaaa
open Go.RowKit CM
set_option linter.unusedVariables false

/-- Where the program's reader is: at a place, or nowhere. -/
def atI : Option Nat → Int
  | some q => (q : Int)
  | none => -1
def nxt : Option Nat → Int
  | some q => (q : Int)
  | none => 0
/-- The reader of parts, in its block. -/
def PR (w : World) (g : Nat) (s : ByteArray) (σ : Option Nat) : Prop := w.heap[g]? = some (.cells #[.string s, .int .i64 (atI σ)] 168 (0, 0)) ∧ RIn s σ
theorem PR.set {w : World} {g : Nat} {s : ByteArray} {σ σ' : Option Nat} (h : PR w g s σ) (h' : RIn s σ') : PR (w.setCell ⟨g, 1, none⟩ (.int .i64 (atI σ'))) g s σ' := ⟨set_blk h.1 _, h'⟩
theorem PR.below {w w' : World} {g : Nat} {s : ByteArray} {σ : Option Nat} (h : PR w g s σ) (hb : Below w.heap.size w w') : PR w' g s σ := ⟨(hb.block g (lt_blk h.1)).trans h.1, h.2⟩

theorem readNum_any (s : ByteArray) (σ : Option Nat) (w : World) (hs : s.size ≤ 6000) (h : RIn s σ) :
    Calls Try.prog 46 #[.string s, .int .i64 (atI σ)] w fun e w' => e = .returned (.tuple #[.int .i64 ((rdN s σ).1 : Int), .int .i64 (nxt (rdN s σ).2), .bool (rdN s σ).2.isSome]) ∧ w = w' := by
  cases σ with
  | none => exact (C1.implReadNum_no s (-1) w (by unfold maxLen; omega) (fun hp => by have := hp.2.1; omega)).mono fun e w' ⟨h1, h2⟩ => ⟨h1, h2⟩
  | some q =>
    have hq := h q rfl
    refine (C1.implReadNum_yes s q w ⟨hs, by omega, by omega⟩).mono ?_
    rintro e w' ⟨rfl, rfl⟩
    refine ⟨?_, rfl⟩
    rcases hr : C1.M.readNum s.data.toList q with ⟨n, x, ok⟩
    have e1 : rdN s (some q) = if ok = true then (n, some x) else (0, none) := by unfold rdN; simp only []; rw [hr]
    rw [e1]
    cases ok with
    | true => rfl
    | false =>
      obtain ⟨rfl, rfl⟩ := C1.M.read_false _ _ _ _ hr
      rfl
theorem readText_any (s : ByteArray) (σ : Option Nat) (w : World) (hs : s.size ≤ 6000) (h : RIn s σ) :
    Calls Try.prog 172 #[.string s, .int .i64 (atI σ)] w fun e w' => e = .returned (.tuple #[.string (rdT s σ).1, .int .i64 (nxt (rdT s σ).2), .bool (rdT s σ).2.isSome]) ∧ Below w.heap.size w w' := by
  cases σ with
  | none => exact (C1.implReadText_no s (-1) w (by unfold maxLen; omega) (fun hp => by have := hp.2.1; omega)).mono fun e w' ⟨h1, h2⟩ => ⟨h1, h2 ▸ Below.refl _ _⟩
  | some q =>
    have hq := h q rfl
    refine (C1.implReadText_yes s q w ⟨hs, by omega, by omega⟩).mono ?_
    rintro e w' ⟨rfl, hb⟩
    refine ⟨?_, hb⟩
    rcases hr : C1.readText s q with ⟨t, x, ok⟩
    have e1 : rdT s (some q) = if ok = true then (t, some x) else (⟨#[]⟩, none) := by unfold rdT; simp only []; rw [hr]
    rw [e1]
    cases ok with
    | true => rfl
    | false =>
      have hz := C1.readText_zero s q (by rw [hr])
      rw [hr] at hz
      injection hz with h1 h2
      injection h2 with h2 h3
      subst h1 h2
      rfl
def rdTs (s : ByteArray) : Option Nat → List ByteArray × Option Nat
  | none => ([], none)
  | some q => match C1.readTexts s q with
    | none => ([], none)
    | some (l, z) => (l, some z)
/-- A list of texts is read, or none. -/
def RTI (s : ByteArray) (σ : Option Nat) (w : World) (v : Value) (x : Int) (ok : Bool) (w' : World) : Prop :=
  Below w.heap.size w w' ∧ ((ok = false ∧ v = .slice none 0 0 ∧ rdTs s σ = ([], none)) ∨ ∃ q l z g, σ = some q ∧ C1.readTexts s q = some (l, z) ∧ ok = true ∧ v = .slice (some ⟨g, 0, none⟩) l.length l.length ∧ x = (z : Int) ∧ l.length ≤ 40 ∧ OwnS w' w.heap.size w'.heap.size (some ⟨g, 0, none⟩) l.length l)
theorem readTexts_any (s : ByteArray) (σ : Option Nat) (w : World) (hs : s.size ≤ 6000) (h : RIn s σ) :
    Calls Try.prog 143 #[.string s, .int .i64 (atI σ)] w fun e w' => ∃ v x ok, e = .returned (.tuple #[v, .int .i64 x, .bool ok]) ∧ RTI s σ w v x ok w' := by
  cases σ with
  | none => exact (C1.implReadTexts_no s (-1) w (by unfold maxLen; omega) (fun hp => by have := hp.2.1; omega)).mono fun e w' ⟨h1, h2⟩ => ⟨_, _, _, h1, h2 ▸ Below.refl _ _, .inl ⟨rfl, rfl, rfl⟩⟩
  | some q =>
    have hq := h q rfl
    refine (C1.implReadTexts_yes s q w ⟨hs, by omega, by omega⟩).mono ?_
    rintro e w' ⟨hb, ⟨hn, rfl⟩ | ⟨l, z, g, hr, rfl, hg, hl, hf⟩⟩
    · exact ⟨_, _, _, rfl, hb, .inl ⟨rfl, rfl, by unfold rdTs; simp only []; rw [hn]⟩⟩
    · refine ⟨_, _, _, rfl, hb, .inr ⟨q, l, z, g, rfl, hr, rfl, rfl, rfl, hl, ?_⟩⟩
      obtain ⟨cur, h1, h2, h3⟩ := hf
      refine .inr ⟨g, cur, rfl, hg, lt_blk h1, h1, by simp, by unfold maxLen; omega, by omega, fun j hj i hi => ?_⟩
      have hi0 : i = 0 := by omega
      subst hi0
      have hjl : j < l.length := by simpa using hj
      rw [Nat.mul_one, Nat.add_zero, h3 j hjl hjl, List.getElem_map]
      rfl

set_option maxRecDepth 100000 in
set_option maxHeartbeats 1000000 in
theorem partNum_any (g : Nat) (s : ByteArray) (σ : Option Nat) (w : World) (h : PR w g s σ) (hs : s.size ≤ 6000) :
    Calls Try.prog 169 #[.pointer (some ⟨g, 0, none⟩), .func (.func 46) #[] #[]] w fun e w' => e = .returned (.int .i64 ((rdN s σ).1 : Int)) ∧ w.grownBy w' (some g) ∧ PR w' g s (rdN s σ).2 := by
  have c0 := cell_blk (i := 0) h.1 rfl
  have c1 := cell_blk (i := 1) h.1 rfl
  have fr := free_all h.1
  have hg := lt_blk h.1
  have hin := (rdN_in h.2).1
  have HP := Lib.hid h
  have HN := Lib.hid (fun W => readNum_any s σ W hs h.2)
  obtain ⟨a, ha⟩ : ∃ a, a = atI σ := ⟨_, rfl⟩
  have HST := Lib.hid (fun (σ' : Option Nat) (h' : RIn s σ') => h.set h')
  rcases hr : rdN s σ with ⟨n, σ'⟩
  rw [hr] at HN hin
  rw [← ha] at c1 HN
  clear h hr ha
  cases σ' with
  | none =>
    go_enter Try.func169, Try.ntmps169
    go_wp2_with fail
    go_quiet ((go_at_call 46; exact Calls.quiet_of ((HN.out _).mono fun e w' h => ⟨h.1, 0, h.2.symm⟩)))
    go_wp2
    go_ret
    exact ⟨rfl, C1.grown_set (C1.grown_drewN (C1.grown_refl _ _) _) rfl _, HST.out none hin⟩
  | some q =>
    go_enter Try.func169, Try.ntmps169
    go_wp2_with fail
    go_quiet ((go_at_call 46; exact Calls.quiet_of ((HN.out _).mono fun e w' h => ⟨h.1, 0, h.2.symm⟩)))
    go_wp2
    go_ret
    exact ⟨rfl, C1.grown_set (C1.grown_drewN (C1.grown_refl _ _) _) rfl _, HST.out (some q) hin⟩

set_option maxRecDepth 100000 in
set_option maxHeartbeats 1000000 in
theorem partText_any (g : Nat) (s : ByteArray) (σ : Option Nat) (w : World) (h : PR w g s σ) (hs : s.size ≤ 6000) :
    Calls Try.prog 171 #[.pointer (some ⟨g, 0, none⟩), .func (.func 172) #[] #[]] w fun e w' => e = .returned (.string (rdT s σ).1) ∧ w.grownBy w' (some g) ∧ PR w' g s (rdT s σ).2 := by
  have hg := lt_blk h.1
  have y0 := bel_cell (cell_blk (i := 0) h.1 rfl) hg
  have y1 := bel_cell (cell_blk (i := 1) h.1 rfl) hg
  have hin := (rdT_in h.2).1
  have HP := Lib.hid h
  have HN := Lib.hid (fun W => readText_any s σ W hs h.2)
  obtain ⟨a, ha⟩ : ∃ a, a = atI σ := ⟨_, rfl⟩
  rcases hr : rdT s σ with ⟨n, σ'⟩
  rw [hr] at HN hin
  rw [← ha] at y1 HN
  clear h hr ha
  cases σ' with
  | none =>
    go_enter Try.func171, Try.ntmps171
    go_wp2_with fail
    refine bel_region (by kernel_rfl) (by kernel_rfl) ?_
    repeat (go_big_quiet_step ((go_at_call 172; exact bel_call (HN.out _))))
    refine wpQuiet_nil ?_
    intro p
    have hpr := HP.out.below p.below
    have d1 := cell_blk (i := 1) hpr.1 rfl
    have dfr := free_all hpr.1
    have HF := Lib.hid (show w.grownBy (p.w.setCell ⟨g, 1, none⟩ (.int .i64 (atI (none)))) (some g) ∧ PR (p.w.setCell ⟨g, 1, none⟩ (.int .i64 (atI (none)))) g s (none) from ⟨C1.grown_set (C1.grown_below (C1.grown_refl _ _) p.below) rfl _, hpr.set hin⟩)
    go_wp2
    go_ret
    exact ⟨rfl, HF.out⟩
  | some q =>
    go_enter Try.func171, Try.ntmps171
    go_wp2_with fail
    refine bel_region (by kernel_rfl) (by kernel_rfl) ?_
    repeat (go_big_quiet_step ((go_at_call 172; exact bel_call (HN.out _))))
    refine wpQuiet_nil ?_
    intro p
    have hpr := HP.out.below p.below
    have d1 := cell_blk (i := 1) hpr.1 rfl
    have dfr := free_all hpr.1
    have HF := Lib.hid (show w.grownBy (p.w.setCell ⟨g, 1, none⟩ (.int .i64 (atI (some q)))) (some g) ∧ PR (p.w.setCell ⟨g, 1, none⟩ (.int .i64 (atI (some q)))) g s (some q) from ⟨C1.grown_set (C1.grown_below (C1.grown_refl _ _) p.below) rfl _, hpr.set hin⟩)
    go_wp2
    go_ret
    exact ⟨rfl, HF.out⟩

/-- A list of texts read: its slice is the call's own; or nothing, and the reader is nowhere. -/
def PTs (s : ByteArray) (σ : Option Nat) (w : World) (g : Nat) (e : Ending) (w' : World) : Prop :=
  w.grownBy w' (some g) ∧ ((e = .returned (.slice none 0 0) ∧ PR w' g s none ∧ rdTs s σ = ([], none)) ∨ ∃ q l z g2, σ = some q ∧ C1.readTexts s q = some (l, z) ∧ e = .returned (.slice (some ⟨g2, 0, none⟩) l.length l.length) ∧ PR w' g s (some z) ∧ l.length ≤ 40 ∧ OwnS w' w.heap.size w'.heap.size (some ⟨g2, 0, none⟩) l.length l)
set_option maxRecDepth 100000 in
set_option maxHeartbeats 2000000 in
theorem partTexts_any (g : Nat) (s : ByteArray) (σ : Option Nat) (w : World) (h : PR w g s σ) (hs : s.size ≤ 6000) (hsz : ∀ q l z, σ = some q → C1.readTexts s q = some (l, z) → z ≤ s.size) :
    Calls Try.prog 142 #[.pointer (some ⟨g, 0, none⟩), .func (.func 143) #[] #[]] w (PTs s σ w g) := by
  have hg := lt_blk h.1
  have c0 := cell_blk (i := 0) h.1 rfl
  have c1 := cell_blk (i := 1) h.1 rfl
  have HP := Lib.hid h
  have HN := Lib.hid (fun W => readTexts_any s σ W hs h.2)
  have HZ := Lib.hid hsz
  obtain ⟨a, ha⟩ : ∃ a, a = atI σ := ⟨_, rfl⟩
  rw [← ha] at c1 HN
  clear h ha hsz
  go_enter Try.func142, Try.ntmps142
  go_wp2_with fail
  go_region_held3 (fun w' => w'.cell? ⟨g, 0, none⟩ = some (.string s) ∧ w'.cell? ⟨g, 1, none⟩ = some (.int .i64 a))
    (first | exact ⟨c0, c1⟩ | exact held1 | skip)
    ((go_at_call 143; (with_reducible refine (HN.out _).mono ?_); rintro e w1 ⟨v, x, ok, rfl, hb1, hcase⟩; have held1 := (show _ ∧ _ from ⟨kept2 hb1 c0 hg, kept2 hb1 c1 hg⟩)))
  have hb : Below w.heap.size w w1 := below_undrew hb1
  have hpr := HP.out.below hb
  have d1 := cell_blk (i := 1) hpr.1 rfl
  have dfr := free_all hpr.1
  rcases hcase with ⟨rfl, rfl, hrt⟩ | ⟨q, l, z, g2, rfl, hrd, rfl, rfl, rfl, hl, hown⟩
  · have HF := Lib.hid (show PTs s σ w g (.returned (.slice none 0 0)) (w1.setCell ⟨g, 1, none⟩ (.int .i64 (-1))) from ⟨C1.grown_set (C1.grown_below (C1.grown_refl _ _) hb) rfl _, .inl ⟨rfl, hpr.set (σ' := none) (fun q hq => by cases hq), hrt⟩⟩)
    clear hb hb1 hpr held1 hrt
    go_wp2
    go_ret
    exact HF.out
  · have ho : OwnS (w1.setCell ⟨g, 1, none⟩ (.int .i64 (z : Int))) w.heap.size w1.heap.size (some ⟨g2, 0, none⟩) l.length l := Own.other hown (fun y hy e => by have := (Own.block hown y hy).1; have e2 : y.block = g := e; have h3 : w.drew.heap.size = w.heap.size := rfl; omega) _
    have HF := Lib.hid (show PTs s (some q) w g (.returned (.slice (some ⟨g2, 0, none⟩) l.length l.length)) (w1.setCell ⟨g, 1, none⟩ (.int .i64 (z : Int))) from ⟨C1.grown_set (C1.grown_below (C1.grown_refl _ _) hb) rfl _, .inr ⟨q, l, z, g2, rfl, hrd, rfl, hpr.set (σ' := some z) (fun q' hq => by injection hq with hq; have := HZ.out q l z rfl hrd; omega), hl, (show (w1.setCell ⟨g, 1, none⟩ (.int .i64 (z : Int))).heap.size = w1.heap.size by simp [World.setCell]) ▸ ho⟩⟩)
    clear hb hb1 hpr held1 ho hown
    go_wp2
    go_ret
    exact HF.out

set_option maxHeartbeats 1000000 in
theorem prNum_any (g : Nat) (s : ByteArray) (σ : Option Nat) (w : World) (h : PR w g s σ) (hs : s.size ≤ 6000) :
    Calls Try.prog 140 #[.pointer (some ⟨g, 0, none⟩)] w fun e w' => e = .returned (.int .i64 ((rdN s σ).1 : Int)) ∧ w.grownBy w' (some g) ∧ PR w' g s (rdN s σ).2 := by
  have HC := Lib.hid (partNum_any g s σ w h hs)
  clear h
  go_enter Try.func140, Try.ntmps140
  go_wp2_with fail
  refine HC.out.mono ?_
  rintro e w1 ⟨rfl, h1, h2⟩
  go_wp2
  go_ret
  exact ⟨rfl, h1, h2⟩
set_option maxHeartbeats 1000000 in
theorem prText_any (g : Nat) (s : ByteArray) (σ : Option Nat) (w : World) (h : PR w g s σ) (hs : s.size ≤ 6000) :
    Calls Try.prog 144 #[.pointer (some ⟨g, 0, none⟩)] w fun e w' => e = .returned (.string (rdT s σ).1) ∧ w.grownBy w' (some g) ∧ PR w' g s (rdT s σ).2 := by
  have HC := Lib.hid (partText_any g s σ w h hs)
  clear h
  go_enter Try.func144, Try.ntmps144
  go_wp2_with fail
  refine HC.out.mono ?_
  rintro e w1 ⟨rfl, h1, h2⟩
  go_wp2
  go_ret
  exact ⟨rfl, h1, h2⟩
set_option maxHeartbeats 1000000 in
theorem prFlag_any (g : Nat) (s : ByteArray) (σ : Option Nat) (w : World) (h : PR w g s σ) (hs : s.size ≤ 6000) :
    Calls Try.prog 141 #[.pointer (some ⟨g, 0, none⟩)] w fun e w' => e = .returned (.bool (((rdN s σ).1 : Int) == 1)) ∧ w.grownBy w' (some g) ∧ PR w' g s (rdN s σ).2 := by
  have HC := Lib.hid (prNum_any g s σ w h hs)
  clear h
  go_enter Try.func141, Try.ntmps141
  go_wp2_with fail
  refine HC.out.mono ?_
  rintro e w1 ⟨rfl, h1, h2⟩
  go_wp2
  go_ret
  exact ⟨rfl, h1, h2⟩
end Go.Proofs.Ytkhndofplebcaaa
