/-
  FnLocks: the plain mathematics of freeing and taking; the laws' sameInts, has and pSameLocks.
-/
import Derived.Test.YtlfdefjkfacngaaLkF8
import Derived.Test.YtlfdefjkfacngaaLkF10
import Derived.Test.YtlfdefjkfacngaaLkDr
import Derived.Test.YtlfdefjkfacngaaNtEq
namespace Go.Proofs.Ytlfdefjkfacngaa.Lk
open Go.RowKit CM Nt
set_option linter.unusedVariables false
set_option linter.unusedSimpArgs false

theorem lk_same {x y : LK} {b : Bool} (h1 : x.1 = y.1) (h2 : x.2.1 = y.2.1) : lkB (x.1, x.2.1, b) = lkB y := by
  unfold lkB; rw [h1, h2]
theorem take_all {x : LK} (hx : lkB x = true) : ∀ {ls : List LK}, ls.all lkB = true → (takeL ls x).all lkB = true
  | [], _ => by simp [takeL, hx]
  | y :: l, h => by
    simp only [List.all_cons, Bool.and_eq_true] at h
    unfold takeL
    split
    · simp only [List.all_cons, Bool.and_eq_true]
      exact ⟨by rw [lk_same rfl rfl]; exact h.1, h.2⟩
    · simp only [List.all_cons, Bool.and_eq_true]
      exact ⟨h.1, take_all hx h.2⟩
theorem excl_or {z y x : LK} (hh : heldB x y = true) (h1 : exclB z y = false) (h2 : exclB z x = false) : exclB z (y.1, y.2.1, y.2.2 || x.2.2) = false := by
  obtain ⟨e1, e2⟩ := held_eq hh
  simp only [exclB, heldB, clashB, Bool.or_eq_false_iff, Bool.and_eq_false_iff, decide_eq_false_iff_not, Bool.not_eq_false', decide_eq_true_eq] at h1 h2 ⊢
  rw [e1, e2] at h1 ⊢
  refine ⟨h1.1, ?_⟩
  rcases h1.2 with h | h | h
  · exact .inl h
  · exact .inr (.inl h)
  · rcases h2.2 with k | k | k
    · exact .inl k
    · exact .inr (.inl k)
    · exact .inr (.inr ⟨h.1, h.2, k.2⟩)
theorem take_ex {z x : LK} : ∀ {ls : List LK}, (∀ y ∈ ls, exclB z y = false) → exclB z x = false → ∀ y ∈ takeL ls x, exclB z y = false
  | [], _, h2, y, hy => by simp [takeL] at hy; rw [hy]; exact h2
  | u :: l, h1, h2, y, hy => by
    unfold takeL at hy
    split at hy
    · next hh =>
      rcases List.mem_cons.1 hy with rfl | hy
      · exact excl_or hh (h1 u (by simp)) h2
      · exact h1 y (List.mem_cons_of_mem _ hy)
    · rcases List.mem_cons.1 hy with rfl | hy
      · exact h1 y (by simp)
      · exact take_ex (fun y hy => h1 y (List.mem_cons_of_mem _ hy)) h2 y hy
theorem excl_new {x y u : LK} (hh : heldB x y = true) (h1 : exclB y u = false) (h2 : clashB x u = false) : exclB (y.1, y.2.1, y.2.2 || x.2.2) u = false := by
  obtain ⟨e1, e2⟩ := held_eq hh
  simp only [exclB, heldB, clashB, Bool.or_eq_false_iff, Bool.and_eq_false_iff, decide_eq_false_iff_not, Bool.not_eq_false', decide_eq_true_eq] at h1 h2 ⊢
  rw [e1, e2] at h1 ⊢
  refine ⟨h1.1, ?_⟩
  rcases h1.2 with h | h | h
  · exact .inl h
  · exact .inr (.inl h)
  · rcases h2 with k | k | k
    · exact .inl k
    · exact .inr (.inl k)
    · exact .inr (.inr ⟨⟨h.1, k.1⟩, h.2⟩)
theorem take_free {x : LK} : ∀ {ls : List LK}, freeB ls = true → (∀ y ∈ ls, clashB x y = false) → freeB (takeL ls x) = true
  | [], _, _ => by simp [takeL, freeB]
  | y :: l, h, hc => by
    simp only [freeB, Bool.and_eq_true, Bool.not_eq_true', List.any_eq_false] at h
    have h1 : ∀ u ∈ l, exclB y u = false := fun u hu => by have := h.1 u hu; simpa using this
    unfold takeL
    split
    · next hh =>
      simp only [freeB, Bool.and_eq_true, Bool.not_eq_true', List.any_eq_false]
      refine ⟨fun u hu => ?_, h.2⟩
      rw [excl_new hh (h1 u hu) (hc u (List.mem_cons_of_mem _ hu))]; simp
    · next hh =>
      simp only [freeB, Bool.and_eq_true, Bool.not_eq_true', List.any_eq_false]
      refine ⟨fun u hu => ?_, take_free h.2 (fun u hu => hc u (List.mem_cons_of_mem _ hu))⟩
      have hyx : exclB y x = false := by
        rw [exclB_symm]
        unfold exclB
        rw [hc y (by simp)]
        simpa using hh
      rw [take_ex h1 hyx u hu]; simp
theorem txns_none {ls : List LK} {x : LK} (h0 : (txnsL ls x).length = 0) : ∀ y ∈ ls, clashB x y = false := by
  intro y hy
  cases e : clashB x y with
  | false => rfl
  | true =>
    have : y.2.1 ∈ txnsL ls x := List.mem_map.2 ⟨y, List.mem_filter.2 ⟨hy, e⟩, rfl⟩
    rw [List.eq_nil_of_length_eq_zero h0] at this; cases this
theorem good_take {ls : List LK} {x : LK} (hg : goodB ls = true) (hl : lkB x = true) (h0 : (txnsL ls x).length = 0) (h6 : (takeL ls x).length ≤ 60) : goodB (takeL ls x) = true := by
  have h1 := hg
  unfold goodB at h1 ⊢
  simp only [Bool.and_eq_true, decide_eq_true_eq] at h1 ⊢
  exact ⟨h6, take_all hl h1.2.1, take_free h1.2.2 (txns_none h0)⟩
theorem pair_free {l : List LK} (h : l.Pairwise fun a b => exclB a b = false) : freeB l = true := by
  induction l with
  | nil => rfl
  | cons x l ih =>
    rw [List.pairwise_cons] at h
    simp only [freeB, Bool.and_eq_true, Bool.not_eq_true', List.any_eq_false]
    exact ⟨fun u hu => by rw [h.1 u hu]; simp, ih h.2⟩
theorem good_filter {ls : List LK} (hg : goodB ls = true) (p : LK → Bool) : goodB (ls.filter p) = true := by
  have h1 := hg
  unfold goodB at h1 ⊢
  simp only [Bool.and_eq_true, decide_eq_true_eq] at h1 ⊢
  refine ⟨Nat.le_trans (List.length_filter_le _ _) h1.1, ?_, pair_free ((free_pair h1.2.2).filter p)⟩
  rw [List.all_eq_true] at h1 ⊢
  exact fun y hy => h1.2.1 y (List.mem_filter.1 hy).1
def freeAll (ls : List LK) (vs : List Int) : List LK := vs.foldl (fun l v => l.filter (partB v false)) ls
theorem freeAll_snoc (ls : List LK) (vs : List Int) (v : Int) : freeAll ls (vs ++ [v]) = (freeAll ls vs).filter (partB v false) := by
  unfold freeAll; rw [List.foldl_append]; rfl
theorem mem_freeAll {y : LK} : ∀ {vs : List Int} {ls : List LK}, y ∈ freeAll ls vs → y ∈ ls ∧ y.2.1 ∉ vs
  | [], ls, h => ⟨h, by simp⟩
  | v :: vs, ls, h => by
    obtain ⟨h1, h2⟩ := mem_freeAll (vs := vs) (ls := ls.filter (partB v false)) h
    obtain ⟨h3, h4⟩ := List.mem_filter.1 h1
    refine ⟨h3, ?_⟩
    rw [List.mem_cons, not_or]
    refine ⟨fun e => ?_, h2⟩
    simp [partB, e] at h4
theorem good_freeAll {vs : List Int} : ∀ {ls : List LK}, goodB ls = true → goodB (freeAll ls vs) = true := by
  induction vs with
  | nil => intro ls h; exact h
  | cons v vs ih => intro ls h; exact ih (good_filter h _)
theorem tiny_freeAll {vs : List Int} {ls : List LK} (h : KTiny ls) : KTiny (freeAll ls vs) := fun y hy => h y (mem_freeAll hy).1
theorem len_freeAll {vs : List Int} : ∀ {ls : List LK}, (freeAll ls vs).length ≤ ls.length := by
  induction vs with
  | nil => intro ls; exact Nat.le_refl _
  | cons v vs ih => intro ls; exact Nat.le_trans (ih (ls := ls.filter (partB v false))) (List.length_filter_le _ _)
theorem waits_in {ls : List LK} {x : LK} {v : Int} (h : v ∈ waitsL ls x) : ∃ y ∈ ls, clashB x y = true ∧ y.2.1 = v := by
  have h1 := (sortI_perm (txnsL ls x)).mem_iff.1 h
  obtain ⟨y, hy, e⟩ := List.mem_map.1 h1
  exact ⟨y, (List.mem_filter.1 hy).1, (List.mem_filter.1 hy).2, e⟩
theorem waits_ne {ls : List LK} {x : LK} {v : Int} (h : v ∈ waitsL ls x) : v ≠ x.2.1 := by
  obtain ⟨y, hy, hc, e⟩ := waits_in h
  simp only [clashB, Bool.and_eq_true, Bool.not_eq_true', decide_eq_false_iff_not] at hc
  exact fun h => hc.2.1 (by rw [e, h])
theorem waits_txn {ls : List LK} {x : LK} {v : Int} (hg : goodB ls = true) (h : v ∈ waitsL ls x) : inB v 1 60 = true := by
  obtain ⟨y, hy, hc, e⟩ := waits_in h
  have h1 := hg
  unfold goodB at h1
  simp only [Bool.and_eq_true, List.all_eq_true] at h1
  have h2 := h1.2.1 y hy
  unfold lkB at h2
  simp only [Bool.and_eq_true] at h2
  rw [← e]; exact h2.2
theorem free_none (ls : List LK) (x : LK) : (txnsL (freeAll ls (waitsL ls x)) x).length = 0 := by
  have : txnsL (freeAll ls (waitsL ls x)) x = [] := by
    rw [List.eq_nil_iff_forall_not_mem]
    intro v hv
    obtain ⟨y, hy, e⟩ := List.mem_map.1 hv
    obtain ⟨h1, h2⟩ := List.mem_filter.1 hy
    obtain ⟨h3, h4⟩ := mem_freeAll h1
    exact h4 ((sortI_perm _).mem_iff.2 (List.mem_map.2 ⟨y, List.mem_filter.2 ⟨h3, h2⟩, rfl⟩))
  rw [this]; rfl
theorem take_frees {ls : List LK} {x : LK} (hg : goodB ls = true) (hl : lkB x = true) (h8 : ls.length ≤ 8) : takeA (freeAll ls (waitsL ls x)) x = (takeL (freeAll ls (waitsL ls x)) x, true) ∧ goodB (takeL (freeAll ls (waitsL ls x)) x) = true := by
  have h1 := len_freeAll (vs := waitsL ls x) (ls := ls)
  have h2 := take_len (freeAll ls (waitsL ls x)) x
  have h3 := good_freeAll (vs := waitsL ls x) hg
  have h4 := free_none ls x
  have h6 : (takeL (freeAll ls (waitsL ls x)) x).length ≤ 60 := by omega
  refine ⟨?_, good_take h3 hl h4 h6⟩
  unfold takeA
  rw [h3, hl]
  simp [h4, h6]
theorem free_is {ls : List LK} {v : Int} (hg : goodB ls = true) (hv : inB v 1 60 = true) : freeA ls v = (ls.filter (partB v false), true) := by
  unfold freeA; rw [hg, hv]; rfl
theorem part_len (ls : List LK) (v : Int) : (ls.filter (partB v false)).length + (ls.filter (partB v true)).length = ls.length := by
  induction ls with
  | nil => rfl
  | cons y l ih =>
    simp only [List.filter_cons]
    by_cases h : y.2.1 = v
    · simp [partB, h] at ih ⊢; omega
    · simp [partB, h] at ih ⊢; omega
theorem ask_ok {ls : List LK} {fs : List Int} {x : LK} {cd : Int} {al : List Int} (h : askA ls fs x = (cd, al, true)) : goodB ls = true ∧ lkB x = true ∧ (((waitsL ls x).length = 0 ∧ cd = 1 ∧ al = []) ∨ ((waitsL ls x).length ≠ 0 ∧ (waitsL ls x).any (askB x fs) = true ∧ cd = 2 ∧ al = []) ∨ ((waitsL ls x).length ≠ 0 ∧ (waitsL ls x).any (askB x fs) = false ∧ cd = 3 ∧ al = waitsL ls x)) := by
  unfold askA at h
  split at h
  · next hc =>
    simp only [Bool.and_eq_true] at hc
    refine ⟨hc.1, hc.2.1, ?_⟩
    split at h
    · next h0 => simp only [Prod.mk.injEq, and_true] at h; exact .inl ⟨h0, h.1.symm, h.2.symm⟩
    · next h0 =>
      split at h
      · next h1 => simp only [Prod.mk.injEq, and_true] at h; exact .inr (.inl ⟨h0, h1, h.1.symm, h.2.symm⟩)
      · next h1 => simp only [Prod.mk.injEq, and_true] at h; exact .inr (.inr ⟨h0, by simpa using h1, h.1.symm, h.2.symm⟩)
  · simp at h
/-- Who is wounded is younger, and not fixed. -/
theorem wounds {ls : List LK} {fs : List Int} {x : LK} {cd : Int} {al : List Int} (h : askA ls fs x = (cd, al, true)) : ∀ v ∈ al, x.2.1 < v ∧ fs.contains v = false := by
  obtain ⟨_, _, h1 | h1 | h1⟩ := ask_ok h
  · rw [h1.2.2]; intro v hv; cases hv
  · rw [h1.2.2.2]; intro v hv; cases hv
  · rw [h1.2.2.2]
    intro v hv
    have h2 := h1.2.1
    rw [List.any_eq_false] at h2
    have h3 := h2 v hv
    have h4 := waits_ne hv
    simp only [askB, Bool.or_eq_true, decide_eq_true_eq, not_or, Bool.not_eq_true] at h3
    exact ⟨by omega, h3.2⟩
/-- Nobody fixed: who waits has an elder one there. -/
theorem elders {ls : List LK} {x : LK} {al : List Int} (h : askA ls [] x = (2, al, true)) : (waitsL ls x).any (fun v => decide (v < x.2.1)) = true := by
  obtain ⟨_, _, h1 | h1 | h1⟩ := ask_ok h
  · exact absurd h1.2.1 (by decide)
  · have h2 := h1.2.1
    rw [List.any_eq_true] at h2 ⊢
    obtain ⟨v, hv, h3⟩ := h2
    exact ⟨v, hv, by simpa [askB] using h3⟩
  · exact absurd h1.2.2.1 (by decide)
theorem given {ls : List LK} {fs : List Int} {x : LK} {cd : Int} {al : List Int} (h : askA ls fs x = (cd, al, true)) : (cd == 1) = (((waitsL ls x).length : Int) == 0) := by
  obtain ⟨_, _, h1 | h1 | h1⟩ := ask_ok h
  · rw [h1.2.1, h1.1]; rfl
  · have h9 : (((waitsL ls x).length : Int) == 0) = false := by rw [beq_eq_false_iff_ne]; have := h1.1; omega
    rw [h1.2.2.1, h9]; rfl
  · have h9 : (((waitsL ls x).length : Int) == 0) = false := by rw [beq_eq_false_iff_ne]; have := h1.1; omega
    rw [h1.2.2.1, h9]; rfl

set_option maxRecDepth 100000 in
set_option maxHeartbeats 1000000 in
theorem sameInts_any (A A' : Option Addr) (n c c' : Nat) (is : List Int) (B : Nat) (w : World) (hn : is.length = n) (h : IntsB w B A is) (h' : IntsB w B A' is) (hB : B ≤ w.heap.size) (hl : n ≤ 1048576) :
    Calls Try.prog 17 #[.slice A n c, .slice A' n c'] w fun e w' => e = .returned (.bool true) ∧ Below w.heap.size w w' := by
  have hge := Nat.le_of_eq hn
  have hle := Nat.le_of_eq hn.symm
  have HS := Lib.hid h
  have HS' := Lib.hid h'
  clear hn h h'
  go_enter Try.func17, Try.ntmps17
  go_wp2
  go_loopw [13] (fun i wr => ∃ k : Nat, k ≤ n ∧ i = .int .i64 k ∧ Below w.heap.size w wr) (fun i _ => n - (intOf i).toNat)
  case atStart => exact ⟨0, by omega, rfl, Below.refl _ _⟩
  case round =>
    obtain ⟨k, hk, rfl, hb⟩ := hrel
    by_cases hlt : k < n
    · obtain ⟨b, off, rfl, hbB, hc⟩ := HS.out.get (by omega)
      obtain ⟨b', off', rfl, hbB', hc'⟩ := HS'.out.get (by omega)
      have hc0 := hc k (by omega)
      have hd0 := hc' k (by omega)
      have c0 := (hb.cell (p := ⟨b, off + k, none⟩) (Nat.lt_of_lt_of_le hbB hB)).trans hc0
      have d0 := (hb.cell (p := ⟨b', off' + k, none⟩) (Nat.lt_of_lt_of_le hbB' hB)).trans hd0
      obtain ⟨y, hy⟩ : ∃ y, y = is[k]'(by omega) := ⟨_, rfl⟩
      rw [← hy] at c0 d0
      have hk0 : (0 : Int) ≤ (k : Int) := by omega
      have hkn : (k : Int) < (n : Int) := by omega
      have HB := Lib.hid hb
      clear hc hc' hc0 hd0 hy hb
      go_wp2_with fail
      go_quiet (fail)
      go_wp2
      go_roundw
      case rel => exact ⟨k + 1, by omega, by go_num, below_drewN HB.out _⟩
      case measure => simp [intOf]; omega
    · go_wp2
      go_ret
      exact ⟨rfl, hb⟩
set_option maxRecDepth 100000 in
set_option maxHeartbeats 1000000 in
theorem pSame_any (A A' : Option Addr) (n c c' : Nat) (is : List LK) (B : Nat) (w : World) (hn : is.length = n) (h : LksB w B A is) (h' : LksB w B A' is) (hB : B ≤ w.heap.size) (hl : n ≤ 1048576) :
    Calls Try.prog 29 #[.slice A n c, .slice A' n c'] w fun e w' => e = .returned (.bool true) ∧ Below w.heap.size w w' := by
  have hge := Nat.le_of_eq hn
  have hle := Nat.le_of_eq hn.symm
  have HS := Lib.hid h
  have HS' := Lib.hid h'
  clear hn h h'
  go_enter Try.func29, Try.ntmps29
  go_wp2
  go_loopw [13] (fun i wr => ∃ k : Nat, k ≤ n ∧ i = .int .i64 k ∧ Below w.heap.size w wr) (fun i _ => n - (intOf i).toNat)
  case atStart => exact ⟨0, by omega, rfl, Below.refl _ _⟩
  case round =>
    obtain ⟨k, hk, rfl, hb⟩ := hrel
    by_cases hlt : k < n
    · obtain ⟨b, off, rfl, hbB, hc⟩ := HS.out.get (by omega)
      obtain ⟨b', off', rfl, hbB', hc'⟩ := HS'.out.get (by omega)
      obtain ⟨u0, u1, u2⟩ := hc k (by omega)
      obtain ⟨v0, v1, v2⟩ := hc' k (by omega)
      have c0 := (hb.cell (p := ⟨b, off + k * 3, none⟩) (Nat.lt_of_lt_of_le hbB hB)).trans u0
      have c1 := (hb.cell (p := ⟨b, off + k * 3 + 1, none⟩) (Nat.lt_of_lt_of_le hbB hB)).trans u1
      have c2 := (hb.cell (p := ⟨b, off + k * 3 + 2, none⟩) (Nat.lt_of_lt_of_le hbB hB)).trans u2
      have d0 := (hb.cell (p := ⟨b', off' + k * 3, none⟩) (Nat.lt_of_lt_of_le hbB' hB)).trans v0
      have d1 := (hb.cell (p := ⟨b', off' + k * 3 + 1, none⟩) (Nat.lt_of_lt_of_le hbB' hB)).trans v1
      have d2 := (hb.cell (p := ⟨b', off' + k * 3 + 2, none⟩) (Nat.lt_of_lt_of_le hbB' hB)).trans v2
      obtain ⟨y, hy⟩ : ∃ y, y = is[k]'(by omega) := ⟨_, rfl⟩
      rw [← hy] at c0 c1 c2 d0 d1 d2
      obtain ⟨s, t, g⟩ := y
      simp only at c0 c1 c2 d0 d1 d2
      have hk0 : (0 : Int) ≤ (k : Int) := by omega
      have hkn : (k : Int) < (n : Int) := by omega
      have heq := fun W => eq_lock W s s t t g g
      rw [sameB_iff.2 rfl] at heq
      have HB := Lib.hid hb
      clear hc hc' u0 u1 u2 v0 v1 v2 hy hb
      go_wp2_with fail
      go_quiet (fail)
      go_wp2
      go_roundw
      case rel => exact ⟨k + 1, by omega, by go_num, below_drewN HB.out _⟩
      case measure => simp [intOf]; omega
    · go_wp2
      go_ret
      exact ⟨rfl, hb⟩
set_option maxRecDepth 100000 in
set_option maxHeartbeats 1000000 in
theorem hasL_any (x : Int) (A : Option Addr) (n c : Nat) (is : List Int) (B : Nat) (w : World) (hn : is.length = n) (h : IntsB w B A is) (hl : n ≤ 1048576) :
    Calls Try.prog 20 #[.slice A n c, .int .i64 x] w fun e w' => e = .returned (.bool (is.contains x)) ∧ w = w' := by
  have hge := Nat.le_of_eq hn
  have hle := Nat.le_of_eq hn.symm
  have HS := Lib.hid h
  obtain ⟨r, hr⟩ : ∃ r, r = is.contains x := ⟨_, rfl⟩
  have HR := Lib.hid (show r = (is.drop 0).contains x from hr)
  rw [← hr]
  clear hn h hr
  go_enter Try.func20, Try.ntmps20
  go_wp2
  go_loopw [6, 9] (fun v i wr => ∃ k : Nat, k ≤ n ∧ i = .int .i64 k ∧ Hid (r = (is.drop k).contains x) ∧ w = wr) (fun _ i _ => n - (intOf i).toNat)
  case atStart => exact ⟨0, by omega, rfl, HR, rfl⟩
  case round =>
    clear HR
    obtain ⟨k, hk, rfl, HR, rfl⟩ := hrel
    by_cases hlt : k < n
    · obtain ⟨b, off, rfl, hbB, hc⟩ := HS.out.get (by omega)
      have c0 := hc k (by omega)
      have HRS := Lib.hid (show r = (x == is[k]'(by omega) || (is.drop (k + 1)).contains x) by rw [HR.out, List.drop_eq_getElem_cons (by omega), List.contains_cons])
      obtain ⟨y, hy⟩ : ∃ y, y = is[k]'(by omega) := ⟨_, rfl⟩
      rw [← hy] at c0 HRS
      have hk0 : (0 : Int) ≤ (k : Int) := by omega
      have hkn : (k : Int) < (n : Int) := by omega
      clear hc hy HR
      by_cases h1 : y = x
      · subst h1
        have HF := Lib.hid (ret_bool (show true = r by rw [HRS.out]; simp))
        clear HRS
        go_wp2
        go_ret
        exact ⟨HF.out, rfl⟩
      · have h1q : (y == x) = false := by simp [h1]
        have h1d : decide (y = x) = false := by simp [h1]
        have HR2 := Lib.hid (show r = (is.drop (k + 1)).contains x by rw [HRS.out, show (x == y) = false by simp; exact fun h => h1 h.symm]; simp)
        clear HRS
        go_wp2
        go_roundw
        case rel => exact ⟨k + 1, by omega, by go_num, HR2, by trivial⟩
        case measure => simp [intOf]; omega
    · have HF := Lib.hid (ret_bool (show false = r by rw [HR.out, List.drop_of_length_le (by omega)]; rfl))
      go_wp2
      go_ret
      exact ⟨HF.out, rfl⟩
end Go.Proofs.Ytlfdefjkfacngaa.Lk
