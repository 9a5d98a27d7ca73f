/-
  Taking a lock: plain mathematics; comparing locks, Index, Contains and Clone over locks; the program's table.with.
-/
import Derived.Test.YtlfdefjkfacngaaLkF5
import Derived.Test.YtlfdefjkfacngaaCopy
import Derived.Laws.Cover3
namespace Go.Proofs.Ytlfdefjkfacngaa.Lk
open Go.RowKit CM Nt
set_option linter.unusedVariables false
set_option linter.unusedSimpArgs false

def sameB (x y : LK) : Bool := (x.1.toList == y.1.toList) && ((x.2.1 == y.2.1) && (x.2.2 == y.2.2))
theorem sameB_iff {x y : LK} : sameB x y = true ↔ x = y := by
  unfold sameB
  rw [Bool.and_eq_true, Bool.and_eq_true]
  constructor
  · rintro ⟨h1, h2, h3⟩
    have e1 := kEq_iff.1 h1
    have e2 := eq_of_beq h2
    have e3 := eq_of_beq h3
    obtain ⟨a, b, c⟩ := x
    obtain ⟨a', b', c'⟩ := y
    simp only at e1 e2 e3
    rw [e1, e2, e3]
  · rintro rfl
    exact ⟨kEq_self _, beq_self_eq_true _, beq_self_eq_true _⟩
def takeL : List LK → LK → List LK
  | [], x => [x]
  | y :: l, x => if heldB x y then (y.1, y.2.1, y.2.2 || x.2.2) :: l else y :: takeL l x
theorem take_at {x : LK} : ∀ {ls : List LK} {k : Nat} (hk : k < ls.length), (ls.take k).any (heldB x) = false → heldB x ls[k] = true → takeL ls x = ls.set k (ls[k].1, ls[k].2.1, ls[k].2.2 || x.2.2)
  | y :: l, 0, _, _, h => by simp at h; simp [takeL, h]
  | y :: l, k + 1, hk, h, h1 => by
    simp only [List.take_succ_cons, List.any_cons, Bool.or_eq_false_iff] at h
    simp only [List.getElem_cons_succ] at h1
    simp only [takeL, h.1, Bool.false_eq_true, if_false, List.getElem_cons_succ, List.set_cons_succ]
    rw [take_at (by simpa using hk) h.2 h1]
theorem take_end {x : LK} : ∀ {ls : List LK}, ls.any (heldB x) = false → takeL ls x = ls ++ [x]
  | [], _ => rfl
  | y :: l, h => by
    simp only [List.any_cons, Bool.or_eq_false_iff] at h
    simp [takeL, h.1, take_end h.2]
theorem held_eq {x y : LK} (h : heldB x y = true) : y.1 = x.1 ∧ y.2.1 = x.2.1 := by
  simp only [heldB, Bool.and_eq_true, decide_eq_true_eq] at h
  exact ⟨h.1.symm, h.2.symm⟩
/-- In a valid table who holds for writing is found by what it holds. -/
theorem has_write {ls : List LK} {s : ByteArray} {t : Int} {g : Bool} {k : Nat} (hg : goodB ls = true) (hk : k < ls.length) (h : heldB (s, t, g) ls[k] = true) : ls.any (sameB (s, t, true)) = ls[k].2.2 := by
  obtain ⟨e1, e2⟩ := held_eq h
  simp only at e1 e2
  cases hw : ls[k].2.2 with
  | true =>
    refine List.any_eq_true.2 ⟨ls[k], List.getElem_mem hk, sameB_iff.2 ?_⟩
    rw [← e1, ← e2, ← hw]
  | false =>
    rw [List.any_eq_false]
    intro z hz hs
    have e := sameB_iff.1 hs
    subst e
    obtain ⟨j, hj, hje⟩ := List.mem_iff_getElem.1 hz
    by_cases hjk : j = k
    · subst hjk; rw [hje] at hw; cases hw
    · have hp := free_pair (good_free hg).2
      rw [List.pairwise_iff_getElem] at hp
      have hh : ∀ a b : LK, heldB a b = true → exclB a b = true := fun a b h => by simp [exclB, h]
      have hjk2 : heldB ls[j] ls[k] = true := by rw [hje]; simp [heldB, e1, e2]
      have hkj2 : heldB ls[k] ls[j] = true := by rw [hje]; simp [heldB, e1, e2]
      rcases Nat.lt_or_ge j k with h1 | h1
      · have := hp j k hj hk h1; rw [hh _ _ hjk2] at this; cases this
      · have := hp k j hk hj (by omega); rw [hh _ _ hkj2] at this; cases this
theorem has_none {ls : List LK} {s : ByteArray} {t : Int} {g : Bool} (h : ls.any (heldB (s, t, g)) = false) : ls.any (sameB (s, t, true)) = false := by
  rw [List.any_eq_false] at h ⊢
  intro z hz hs
  have e := sameB_iff.1 hs
  subst e
  exact h _ hz (by simp [heldB])
def takeA (ls : List LK) (x : LK) : List LK × Bool := if goodB ls && (lkB x && (decide ((txnsL ls x).length = 0) && decide ((takeL ls x).length ≤ 60))) then (takeL ls x, true) else ([], false)
theorem takeA_len (ls : List LK) (x : LK) : (takeA ls x).1.length ≤ 60 := by
  unfold takeA
  split
  · next h => simp only [Bool.and_eq_true, decide_eq_true_eq] at h; exact h.2.2.2
  · simp
theorem waits_zero {ls : List LK} {x : LK} : (waitsL ls x).length = (txnsL ls x).length := by unfold waitsL; rw [sortI_len]
/-- A row with a lock in the place of the one that it replaces, or behind the last one. -/
theorem OwnK.put {w : World} {lo hi g cap : Nat} {ls : List LK} (h : OwnK w lo hi (some ⟨g, 0, none⟩) cap ls) (k : Nat) (hk : k < ls.length) (a : ByteArray) (b : Int) (d : Bool) :
    OwnK (((w.setCell ⟨g, k * 3, none⟩ (.string a)).setCell ⟨g, k * 3 + 1, none⟩ (.int .i64 b)).setCell ⟨g, k * 3 + 2, none⟩ (.bool d)) lo hi (some ⟨g, 0, none⟩) cap (ls.set k (a, b, d)) := by
  have hk' : k < (ls.map lkCs).length := by simpa using hk
  have h0 : (ls.map lkCs)[k].length = 3 := by simp [lkCs]
  have h1 := Own.put h k 0 hk' (by omega) h0 (.string a)
  have h2 := Own.put h1 k 1 (by simpa using hk) (by omega) (by simpa using h0) (.int .i64 b)
  have h3 := Own.put h2 k 2 (by simpa using hk) (by omega) (by simpa using h0) (.bool d)
  unfold OwnK
  have e : ((((ls.map lkCs).set k ((ls.map lkCs)[k].set 0 (.string a))).set k ((((ls.map lkCs).set k ((ls.map lkCs)[k].set 0 (.string a)))[k]'(by simpa using hk)).set 1 (.int .i64 b))).set k (((((ls.map lkCs).set k ((ls.map lkCs)[k].set 0 (.string a))).set k ((((ls.map lkCs).set k ((ls.map lkCs)[k].set 0 (.string a)))[k]'(by simpa using hk)).set 1 (.int .i64 b)))[k]'(by simpa using hk)).set 2 (.bool d))) = (ls.set k (a, b, d)).map lkCs := by
    simp only [List.set_set, List.getElem_set_self, List.map_set]
    congr 1
    simp [lkCs]
  rw [e] at h3
  exact h3
theorem OwnK.putW {w : World} {lo hi g cap : Nat} {ls : List LK} (h : OwnK w lo hi (some ⟨g, 0, none⟩) cap ls) (k : Nat) (hk : k < ls.length) (d : Bool) :
    OwnK (w.setCell ⟨g, k * 3 + 2, none⟩ (.bool d)) lo hi (some ⟨g, 0, none⟩) cap (ls.set k (ls[k].1, ls[k].2.1, d)) := by
  have hk' : k < (ls.map lkCs).length := by simpa using hk
  have h3 := Own.put h k 2 hk' (by omega) (by simp [lkCs]) (.bool d)
  unfold OwnK
  have e : (ls.map lkCs).set k ((ls.map lkCs)[k].set 2 (.bool d)) = (ls.set k (ls[k].1, ls[k].2.1, d)).map lkCs := by
    rw [List.map_set]
    congr 1
    simp [lkCs]
  rw [e] at h3
  exact h3
theorem OwnK.free {w : World} {lo hi g cap : Nat} {ls : List LK} (h : OwnK w lo hi (some ⟨g, 0, none⟩) cap ls) (m : Nat) : w.frozen? ⟨g, m, none⟩ = false := by
  rcases h with ⟨_, h, _⟩ | ⟨g', cur, hA, _, _, h3, _⟩
  · cases h
  · injection hA with hA
    injection hA with hg
    subst hg
    exact free_blk h3 m
theorem OwnK.at {w : World} {lo hi cap : Nat} {A : Option Addr} {ls : List LK} (h : OwnK w lo hi A cap ls) (hn : 0 < ls.length) : ∃ g, A = some ⟨g, 0, none⟩ ∧ lo ≤ g ∧ g < hi ∧ g < w.heap.size := by
  obtain ⟨g, cur, hA, h1, h2, h3, _⟩ := Own.form h (by simpa using hn)
  exact ⟨g, hA, h1, h2, lt_blk h3⟩
theorem OwnK.cap {w : World} {lo hi cap : Nat} {A : Option Addr} {ls : List LK} (h : OwnK w lo hi A cap ls) : ls.length ≤ cap := by
  rcases h with ⟨h1, h2, h3⟩ | ⟨g, cur, hA, h1, h2, h3, h4, _⟩
  · rw [List.map_eq_nil_iff] at h1; subst h1; exact Nat.zero_le _
  · rwa [List.length_map] at h4

/-! ### Comparing locks -/
theorem fieldsLk' : ((Try.prog.fieldsOf 27).toList.map fun f => (f.name, f.type, f.offset)) = [("Key", 9, 0), ("Txn", 3, 1), ("Write", 4, 2)] := by kernel_rfl
theorem fieldsLk : ∃ f g k, (Try.prog.fieldsOf 27).toList = [f, g, k] ∧ f.name = "Key" ∧ f.type = 9 ∧ f.offset = 0 ∧ g.name = "Txn" ∧ g.type = 3 ∧ g.offset = 1 ∧ k.name = "Write" ∧ k.type = 4 ∧ k.offset = 2 := by
  have h := fieldsLk'
  generalize (Try.prog.fieldsOf 27).toList = l at h
  have hl := congrArg List.length h
  simp only [List.length_map, List.length_cons, List.length_nil] at hl
  obtain ⟨f, g, k, rfl⟩ : ∃ f g k, l = [f, g, k] := by
    rcases l with _ | ⟨f, _ | ⟨g, _ | ⟨k, _ | ⟨u, l⟩⟩⟩⟩
    · simp at hl
    · simp at hl
    · simp at hl
    · exact ⟨f, g, k, rfl⟩
    · simp at hl
  simp only [List.map_cons, List.map_nil, List.cons.injEq, Prod.mk.injEq, and_true] at h
  exact ⟨f, g, k, rfl, h.1.1, h.1.2.1, h.1.2.2, h.2.1.1, h.2.1.2.1, h.2.1.2.2, h.2.2.1, h.2.2.2.1, h.2.2.2.2⟩
theorem eq_lock (w : World) (s s' : ByteArray) (t t' : Int) (g g' : Bool) :
    (Op.equalIn 10000 27 (.agg #[.string s, .int .i64 t, .bool g]) (.agg #[.string s', .int .i64 t', .bool g'])).run Try.prog w = .ok (sameB (s, t, g) (s', t', g')) w := by
  have hq : ∀ x y : Int, (Op.equalIn 9999 3 (.int .i64 x) (.int .i64 y)).run Try.prog w = .ok (x == y) w := fun x y => run_equalIn_int w 9998 3 .i64 .i64 x y Try.underlying3
  have hqs : ∀ x y : ByteArray, (Op.equalIn 9999 9 (.string x) (.string y)).run Try.prog w = .ok (x.toList == y.toList) w := fun x y => run_equalIn_string w 9998 9 x y Try.underlying9
  have hqb : ∀ x y : Bool, (Op.equalIn 9999 4 (.bool x) (.bool y)).run Try.prog w = .ok (x == y) w := fun x y => run_equalIn_bool w 9998 4 x y Try.underlying4
  have hp : ∀ (xs : Array Value) (o : Nat) (v : Value), xs[o]? = some v → (part 3 xs o).run Try.prog w = .ok v w := fun xs o v h => run_part_plain w (by kernel_rfl) h
  have hps : ∀ (xs : Array Value) (o : Nat) (v : Value), xs[o]? = some v → (part 9 xs o).run Try.prog w = .ok v w := fun xs o v h => run_part_plain w (by kernel_rfl) h
  have hpb : ∀ (xs : Array Value) (o : Nat) (v : Value), xs[o]? = some v → (part 4 xs o).run Try.prog w = .ok v w := fun xs o v h => run_part_plain w (by kernel_rfl) h
  obtain ⟨f, g1, k, hfg, f1, f2, f3, g11, g2, g3, k1, k2, k3⟩ := fieldsLk
  rw [show (10000 : Nat) = 9999 + 1 from rfl, run_equalIn_struct w 9999 27 _ _ (by kernel_rfl) (by kernel_rfl), hfg]
  unfold sameB
  simp only [Op.eqFields, Sem.run_bind, ne_eq, f1, f2, f3, g11, g2, g3, k1, k2, k3, not_false_eq_true, if_true, String.reduceEq]
  rw [hps _ 0 (.string s) rfl]
  simp only [Result.andThen_ok]
  rw [hps _ 0 (.string s') rfl]
  simp only [Result.andThen_ok, hqs]
  cases h0 : (s.toList == s'.toList)
  · simp
  · simp only [Bool.not_true, Bool.false_eq_true, if_false, Sem.run_bind]
    rw [hp _ 1 (.int .i64 t) rfl]
    simp only [Result.andThen_ok]
    rw [hp _ 1 (.int .i64 t') rfl]
    simp only [Result.andThen_ok, hq]
    cases h1 : (t == t')
    · simp
    · simp only [Bool.not_true, Bool.false_eq_true, if_false, Sem.run_bind]
      rw [hpb _ 2 (.bool g) rfl]
      simp only [Result.andThen_ok]
      rw [hpb _ 2 (.bool g') rfl]
      simp only [Result.andThen_ok, hqb]
      cases h2 : (g == g') <;> simp

set_option maxRecDepth 100000 in
set_option maxHeartbeats 2000000 in
theorem indexL_any (s : ByteArray) (t : Int) (g : Bool) (A : Option Addr) (n c : Nat) (ls : List LK) (B : Nat) (w : World) (hn : ls.length = n) (hcp : n ≤ c) (h : LksB w B A ls) (hB : B ≤ w.heap.size) (hm : KSmall ls) :
    Calls Try.prog 104 #[.slice A n c, .agg #[.string s, .int .i64 t, .bool g]] w (IxPost (sameB (s, t, g)) ls w) := by
  have HB0 := Lib.hid (below1 w (.cells #[.string s, .int .i64 t, .bool g] 27))
  have HK0 := Lib.hid (heap_alloc_new w (.cells #[.string s, .int .i64 t, .bool g] 27))
  have hge := Nat.le_of_eq hn
  have hle := Nat.le_of_eq hn.symm
  have HS := Lib.hid h
  have hm1 := hm.1
  rw [hn] at hm1
  clear hn h hm
  go_enter Try.func104, Try.ntmps104
  go_wp2
  go_loopw [8] (fun i wr => ∃ k : Nat, k ≤ n ∧ i = .int .i64 k ∧ Hid ((ls.take k).any (sameB (s, t, g)) = false) ∧ Hid (Below w.heap.size w wr) ∧ Hid (wr.heap[w.heap.size]? = some (.cells #[.string s, .int .i64 t, .bool g] 27 (0, 0)))) (fun i _ => n - (intOf i).toNat)
  case atStart => exact ⟨0, by omega, rfl, Lib.hid rfl, HB0, HK0⟩
  case round =>
    clear HB0 HK0
    obtain ⟨k, hk, rfl, HP, HB, HK⟩ := hrel
    have x0 := cell_blk (i := 0) HK.out rfl
    have x1 := cell_blk (i := 1) HK.out rfl
    have x2 := cell_blk (i := 2) HK.out rfl
    have hlx := lt_blk HK.out
    by_cases hlt : k < n
    · obtain ⟨b, off, rfl, hbB, hc⟩ := HS.out.get (by omega)
      obtain ⟨hc0, hc1, hc2⟩ := hc k (by omega)
      have c0 := (HB.out.cell (p := ⟨b, off + k * 3, none⟩) (Nat.lt_of_lt_of_le hbB hB)).trans hc0
      have c1 := (HB.out.cell (p := ⟨b, off + k * 3 + 1, none⟩) (Nat.lt_of_lt_of_le hbB hB)).trans hc1
      have c2 := (HB.out.cell (p := ⟨b, off + k * 3 + 2, none⟩) (Nat.lt_of_lt_of_le hbB hB)).trans hc2
      have hk0 : (0 : Int) ≤ (k : Int) := by omega
      have hkn : (k : Int) < (n : Int) := by omega
      have HSU : Hid (sameB (s, t, g) (ls[k]'(by omega)) = false → (ls.take (k + 1)).any (sameB (s, t, g)) = false) := Lib.hid fun h => by
        rw [List.take_succ_eq_append_getElem (by omega), List.any_append, HP.out]; simp [h]
      have HYES : Hid (sameB (s, t, g) (ls[k]'(by omega)) = true → ∀ w', Below w.heap.size w w' → IxPost (sameB (s, t, g)) ls w (.returned (.int .i64 (k : Int))) w') := Lib.hid fun h w' hb => ⟨k, rfl, .inl ⟨k, by omega, rfl, h, HP.out⟩, hb⟩
      obtain ⟨y, hy⟩ : ∃ y, y = ls[k]'(by omega) := ⟨_, rfl⟩
      rw [← hy] at c0 c1 c2 HSU HYES
      obtain ⟨s', t', g'⟩ := y
      simp only at c0 c1 c2
      have heq := fun W => eq_lock W s s' t t' g g'
      clear hc hc0 hc1 hc2 hy HP
      obtain ⟨r1, hr1⟩ : ∃ r, r = sameB (s, t, g) (s', t', g') := ⟨_, rfl⟩
      rw [← hr1] at heq HSU HYES
      clear hr1
      have HBD := Lib.hid (HB.out.drew)
      have HKD := Lib.hid (show wr.drew.heap[w.heap.size]? = some (.cells #[.string s, .int .i64 t, .bool g] 27 (0, 0)) from HK.out)
      cases r1 with
      | true =>
        have HF := Lib.hid (HYES.out rfl)
        go_wp2_with fail
        go_quiet (fail)
        go_wp2
        go_ret
        exact HF.out _ (below_drewN HB.out _)
      | false =>
        have HG := Lib.hid (HSU.out rfl)
        go_wp2_with fail
        go_quiet (fail)
        go_wp2
        go_roundw
        case rel => exact ⟨k + 1, by omega, by go_num, HG, Lib.hid (below_drewN HB.out _), Lib.hid (((below_drewN (Below.refl wr.heap.size wr) _).block w.heap.size hlx).trans HK.out)⟩
        case measure => simp [intOf]; omega
    · have HF := Lib.hid (show IxPost (sameB (s, t, g)) ls w (.returned (.int .i64 (-1))) wr from ⟨-1, rfl, .inr ⟨rfl, by have := HP.out; rwa [List.take_of_length_le (by omega)] at this⟩, HB.out⟩)
      clear x0 x1 x2
      go_wp2
      go_ret
      exact HF.out

theorem containsL_any (s : ByteArray) (t : Int) (g : Bool) (A : Option Addr) (n c : Nat) (ls : List LK) (B : Nat) (w : World) (hn : ls.length = n) (hcp : n ≤ c) (h : LksB w B A ls) (hB : B ≤ w.heap.size) (hm : KSmall ls) :
    Calls Try.prog 72 #[.slice A n c, .agg #[.string s, .int .i64 t, .bool g]] w fun e w' => e = .returned (.bool (ls.any (sameB (s, t, g)))) ∧ Below w.heap.size w w' := by
  have HB0 := Lib.hid (below1 w (.cells #[.string s, .int .i64 t, .bool g] 27))
  have HC := Lib.hid (fun W (hW : Below w.heap.size w W) => indexL_any s t g A n c ls B W hn hcp (h.below (hW.mono hB)) (Nat.le_trans hB hW.size) hm)
  clear h hm
  go_enter Try.func72, Try.ntmps72
  go_wp2_with fail
  refine (HC.out _ HB0.out).mono ?_
  rintro e w4 ⟨r, rfl, hr, hb4⟩
  have HB4 := Lib.hid (HB0.out.trans (hb4.mono HB0.out.size))
  clear hb4
  rcases hr with ⟨k, hk, rfl, hp, _⟩ | ⟨rfl, hg⟩
  · have HF := Lib.hid (ret_bool (ix_any hk hp).symm)
    have hk0 : (0 : Int) ≤ (k : Int) := by omega
    clear hp
    go_wp2
    go_ret
    exact ⟨HF.out, HB4.out⟩
  · have HF := Lib.hid (ret_bool hg.symm)
    clear hg
    go_wp2
    go_ret
    exact ⟨HF.out, HB4.out⟩

set_option maxRecDepth 100000 in
set_option maxHeartbeats 2000000 in
theorem idxHe_any (s : ByteArray) (t : Int) (g : Bool) (A : Option Addr) (n c : Nat) (ls : List LK) (B : Nat) (w : World) (hn : ls.length = n) (hcp : n ≤ c) (h : LksB w B A ls) (hB : B ≤ w.heap.size) (hm : KSmall ls) :
    Calls Try.prog 103 #[.slice A n c, (.func (.func 74) #[.agg #[.string s, .int .i64 t, .bool g]] #[])] w (IxPost (heldB (s, t, g)) ls w) := by
  have hge := Nat.le_of_eq hn
  have hle := Nat.le_of_eq hn.symm
  have HS := Lib.hid h
  have hm1 := hm.1
  rw [hn] at hm1
  clear hn h hm
  go_enter Try.func103, Try.ntmps103
  go_wp2
  go_loopw [8] (fun i wr => ∃ k : Nat, k ≤ n ∧ i = .int .i64 k ∧ Hid ((ls.take k).any (heldB (s, t, g)) = false) ∧ Hid (Below w.heap.size w wr)) (fun i _ => n - (intOf i).toNat)
  case atStart => exact ⟨0, by omega, rfl, Lib.hid rfl, Lib.hid (Below.refl _ _)⟩
  case round =>
    obtain ⟨k, hk, rfl, HP, HB⟩ := hrel
    by_cases hlt : k < n
    · obtain ⟨b, off, rfl, hbB, hc⟩ := HS.out.get (by omega)
      obtain ⟨hc0, hc1, hc2⟩ := hc k (by omega)
      have c0 := (HB.out.cell (p := ⟨b, off + k * 3, none⟩) (Nat.lt_of_lt_of_le hbB hB)).trans hc0
      have c1 := (HB.out.cell (p := ⟨b, off + k * 3 + 1, none⟩) (Nat.lt_of_lt_of_le hbB hB)).trans hc1
      have c2 := (HB.out.cell (p := ⟨b, off + k * 3 + 2, none⟩) (Nat.lt_of_lt_of_le hbB hB)).trans hc2
      have hk0 : (0 : Int) ≤ (k : Int) := by omega
      have HSU : Hid (heldB (s, t, g) (ls[k]'(by omega)) = false → (ls.take (k + 1)).any (heldB (s, t, g)) = false) := Lib.hid fun h => by
        rw [List.take_succ_eq_append_getElem (by omega), List.any_append, HP.out]; simp [h]
      have HYES : Hid (heldB (s, t, g) (ls[k]'(by omega)) = true → ∀ w', Below w.heap.size w w' → IxPost (heldB (s, t, g)) ls w (.returned (.int .i64 (k : Int))) w') := Lib.hid fun h w' hb => ⟨k, rfl, .inl ⟨k, by omega, rfl, h, HP.out⟩, hb⟩
      obtain ⟨y, hy⟩ : ∃ y, y = ls[k]'(by omega) := ⟨_, rfl⟩
      rw [← hy] at c0 c1 c2 HSU HYES
      obtain ⟨s', t', g'⟩ := y
      simp only at c0 c1 c2
      have HC := Lib.hid (fun W => heldAs_any s t g s' t' g' W)
      clear hc hc0 hc1 hc2 hy HP
      obtain ⟨r1, hr1⟩ : ∃ r, r = heldB (s, t, g) (s', t', g') := ⟨_, rfl⟩
      rw [← hr1] at HC HSU HYES
      clear hr1
      go_wp2_with fail
      refine (HC.out _).mono ?_
      rintro e w4 ⟨rfl, hb4⟩
      have HB4 := Lib.hid (HB.out.trans (hb4.mono HB.out.size))
      clear hb4 c0 c1 c2
      cases r1 with
      | true =>
        have HF := Lib.hid (HYES.out rfl w4 HB4.out)
        go_wp2
        go_ret
        exact HF.out
      | false =>
        have HG := Lib.hid (HSU.out rfl)
        go_wp2
        go_roundw
        case rel => exact ⟨k + 1, by omega, by go_num, HG, HB4⟩
        case measure => simp [intOf]; omega
    · have HF := Lib.hid (show IxPost (heldB (s, t, g)) ls w (.returned (.int .i64 (-1))) wr from ⟨-1, rfl, .inr ⟨rfl, by have := HP.out; rwa [List.take_of_length_le (by omega)] at this⟩, HB.out⟩)
      go_wp2
      go_ret
      exact HF.out
theorem hasHe_any (s : ByteArray) (t : Int) (g : Bool) (A : Option Addr) (n c : Nat) (ls : List LK) (B : Nat) (w : World) (hn : ls.length = n) (hcp : n ≤ c) (h : LksB w B A ls) (hB : B ≤ w.heap.size) (hm : KSmall ls) :
    Calls Try.prog 69 #[.slice A n c, (.func (.func 74) #[.agg #[.string s, .int .i64 t, .bool g]] #[])] w fun e w' => e = .returned (.bool (ls.any (heldB (s, t, g)))) ∧ Below w.heap.size w w' := by
  have HC := Lib.hid (idxHe_any s t g A n c ls B w hn hcp h hB hm)
  clear h
  go_enter Try.func69, Try.ntmps69
  go_wp2_with fail
  refine HC.out.mono ?_
  rintro e w4 ⟨r, rfl, hr, hb4⟩
  have HB4 := Lib.hid hb4
  clear hb4
  rcases hr with ⟨k, hk, rfl, hp, _⟩ | ⟨rfl, hg⟩
  · have HF := Lib.hid (ret_bool (ix_any hk hp).symm)
    have hk0 : (0 : Int) ≤ (k : Int) := by omega
    clear hp
    go_wp2
    go_ret
    exact ⟨HF.out, HB4.out⟩
  · have HF := Lib.hid (ret_bool hg.symm)
    clear hg
    go_wp2
    go_ret
    exact ⟨HF.out, HB4.out⟩

theorem k_src {w : World} {B n : Nat} {A : Option Addr} {ls : List LK} (h : LksB w B A ls) (hn : ls.length = n) (h0 : 0 < n) : ∃ ad, A = some ad ∧ ∀ j u, ((ls.map lkCs).flatten)[j]? = some u → w.cell? (ad.add j) = some u := by
  obtain ⟨b, off, hA, _⟩ := h.get (by omega)
  subst hA
  exact ⟨_, rfl, row_src h (lkCs_len _) (by decide)⟩
set_option maxHeartbeats 1000000 in
theorem cloneK_any (A : Option Addr) (n c : Nat) (ls : List LK) (B : Nat) (w : World) (hn : ls.length = n) (hcp : n ≤ c) (h : LksB w B A ls) (hB : B ≤ w.heap.size) (hm : KSmall ls) :
    Calls Try.prog 105 #[.slice A n c] w (KRPost ls w) := by
  obtain ⟨i0, hi, hz0, hz1, hz2⟩ := info_parts infoLock
  have heq := fun (ad : Option Addr) (W : World) => show (binOp .eql 24 (.slice ad n c) (.slice none 0 0)).run Try.prog W = .ok (.bool ad.isNone) W by
    simp only [binOp]
    simp [run_equal_slice_nil W 24 27 ad n c Try.underlying24]
  have hm1 := hm.1
  rw [hn] at hm1
  cases A with
  | none =>
    have h0 : ls = [] := by
      rcases h with h | ⟨b, off, hA, _⟩
      · simpa using h
      · cases hA
    subst h0
    simp only [List.length_nil] at hn
    subst hn
    have heq := heq none
    simp only [Option.isNone_none] at heq
    clear h hm
    go_enter Try.func105, Try.ntmps105
    go_wp2
    go_ret
    exact ⟨_, _, rfl, .inl ⟨rfl, rfl, rfl⟩, Below.refl _ _⟩
  | some ad =>
    have heq := heq (some ad)
    simp only [Option.isNone_some] at heq
    have HO := Lib.hid (own_empty w w.heap.size 27 3 (Nat.le_refl _))
    have HSRC := Lib.hid (k_src (h.below ((below1 w (.cells #[] 27)).mono hB)) hn)
    have HLEN := Lib.hid (show ((ls.map lkCs).flatten).length = n * 3 by rw [flat_len (lkCs_len _), List.length_map, hn])
    have HONE := Lib.hid (lkCs_one ls)
    have HN := Lib.hid hn
    clear h hn hm
    go_enter Try.func105, Try.ntmps105
    go_wp2_with (at_builtin; refine wpList_app rfl (.tmp 5) (.tmp 6) 24 rfl w.heap.size 27 i0 _ 3 32 Try.underlying24 hi hz0 hz1 hz2 rfl (by decide) (.slice (some ⟨w.heap.size, 0, none⟩) 0 0) 0 [] rfl HO.out (some ad) n c ((ls.map lkCs).flatten) rfl HLEN.out HSRC.out HONE.out (by unfold maxLen; omega) (by omega) (by simp) ?_; intro v1 w1 hown1 hgr1 _; have hx := Own.ofRow (w := w1) (lo := w.heap.size) (t := 27) (sz := 3) (n := n) (v := v1) (L := ls.map lkCs) (hi := w1.heap.size) (by simpa using hown1) (lkCs_len _) (by decide) (fun k hk => (hown1.lt k hk).2); obtain ⟨A1, c1, rfl, _, ho⟩ := hx; rw [List.length_map, HN.out])
    have HB := Lib.hid ((below1 w (.cells #[] 27)).grown hgr1 (by simp) (fun k hk => by simp [Value.ownBlock] at hk; omega))
    have HF := Lib.hid (show KRPost ls w (.returned (.slice A1 n c1)) w1 from ⟨A1, c1, by rw [HN.out], ho, HB.out⟩)
    clear hown1 hgr1 ho
    go_ret
    exact HF.out

def withA (ls : List LK) (x : LK) (w : World) (e : Ending) (w' : World) : Prop :=
  (∃ k, ∃ h : k < ls.length, heldB x ls[k] = true ∧ (ls.take k).any (heldB x) = false ∧ KAPost (ls.set k x, true) w e w') ∨
  (ls.any (heldB x) = false ∧ ls.length = 60 ∧ KAPost ([], false) w e w') ∨
  (ls.any (heldB x) = false ∧ ls.length ≠ 60 ∧ KAPost (ls ++ [x], true) w e w')
set_option maxRecDepth 100000 in
set_option maxHeartbeats 4000000 in
theorem with_any (s : ByteArray) (t : Int) (g : Bool) (A : Option Addr) (n c : Nat) (ls : List LK) (B : Nat) (w : World) (hn : ls.length = n) (hcp : n ≤ c) (h : LksB w B A ls) (hB : B ≤ w.heap.size) (hm : KSmall ls) :
    Calls Try.prog 73 #[.agg #[.slice A n c, .int .i64 60], .agg #[.string s, .int .i64 t, .bool g], (.func (.func 74) #[.agg #[.string s, .int .i64 t, .bool g]] #[])] w (withA ls (s, t, g) w) := by
  obtain ⟨i0, hi0, hz0, hz1, hz2⟩ := info_parts infoLock
  have HB0 := Lib.hid (below2 w (.cells #[.slice A n c, .int .i64 60] 83) (.cells #[.string s, .int .i64 t, .bool g] 27))
  have hkt := ((below1 (w.alloc (.cells #[.slice A n c, .int .i64 60] 83)) (.cells #[.string s, .int .i64 t, .bool g] 27)).block w.heap.size (by simp)).trans (heap_alloc_new w (.cells #[.slice A n c, .int .i64 60] 83))
  have hkx := alloc_snd w (.cells #[.slice A n c, .int .i64 60] 83) (.cells #[.string s, .int .i64 t, .bool g] 27)
  have HCL := Lib.hid (fun W (hW : Below w.heap.size w W) => cloneK_any A n c ls B W hn hcp (h.below (hW.mono hB)) (Nat.le_trans hB hW.size) hm)
  unfold KRPost at HCL
  have HN := Lib.hid hn
  have HM := Lib.hid hm
  have hm1 := hm.1
  rw [hn] at hm1
  clear h hn hm
  go_enter Try.func73, Try.ntmps73
  go_wp2_with fail
  refine (HCL.out _ HB0.out).mono ?_
  rintro e w1 ⟨A1, c1, rfl, ho1, hb1⟩
  rw [HN.out]
  have HB1 := Lib.hid (HB0.out.trans (hb1.mono HB0.out.size))
  have hkt1 := (hb1.block w.heap.size (lt_blk hkt)).trans hkt
  have hkx1 := (hb1.block (w.heap.size + 1) (lt_blk hkx)).trans hkx
  have hlt1 := lt_blk hkx1
  have hs1 : w.heap.size + 2 ≤ w1.heap.size := by omega
  have HO1 := Lib.hid (OwnK.wider (lo' := w.heap.size + 2) ho1 (by simp) (Nat.le_refl _))
  have HIX := Lib.hid (idxHe_any s t g A1 n c1 ls w1.heap.size w1 HN.out (by rw [← HN.out]; exact HO1.out.cap) HO1.out.lks (Nat.le_refl _) HM.out)
  clear hb1 ho1
  go_wp2_with fail
  refine HIX.out.mono ?_
  rintro e w2 ⟨r, rfl, hr, hb2⟩
  have HB2 := Lib.hid (HB1.out.trans (hb2.mono HB1.out.size))
  have HO2 := Lib.hid (OwnK.grow (hi := 0) HO1.out hb2)
  have hkt2 := (hb2.block w.heap.size (lt_blk hkt1)).trans hkt1
  have hkx2 := (hb2.block (w.heap.size + 1) (lt_blk hkx1)).trans hkx1
  have t1 := cell_blk (i := 1) hkt2 rfl
  have x0 := cell_blk (i := 0) hkx2 rfl
  have x1 := cell_blk (i := 1) hkx2 rfl
  have x2 := cell_blk (i := 2) hkx2 rfl
  have hl2 := lt_blk hkx2
  have hzz2 := hb2.size
  clear hb2
  rcases hr with ⟨k, hk, rfl, hp, hnk⟩ | ⟨rfl, hg⟩
  · obtain ⟨gg, rfl, hg1, hg2, hg3⟩ := HO2.out.at (by omega)
    have hk0 : (0 : Int) ≤ (k : Int) := by omega
    have hkn : (k : Int) < (n : Int) := by have := HN.out; omega
    have HPU := Lib.hid (OwnK.put HO2.out k hk s t g)
    have fz0 := OwnK.free HO2.out (k * 3)
    have fz1 := OwnK.free HO2.out (k * 3 + 1)
    have fz2 := OwnK.free HO2.out (k * 3 + 2)
    have hrow := HO2.out.lks.get (by omega)
    obtain ⟨b9, off9, hA9, hb9, hc9⟩ := hrow
    injection hA9 with hA9
    injection hA9 with e1 e2
    subst e1 e2
    obtain ⟨v0, v1, v2⟩ := hc9 k hk
    simp only [Nat.zero_add] at v0 v1 v2
    have HBF := Lib.hid (((HB2.out.setCell (p := ⟨gg, k * 3, none⟩) (by simp; omega) (.string s)).setCell (p := ⟨gg, k * 3 + 1, none⟩) (by simp; omega) (.int .i64 t)).setCell (p := ⟨gg, k * 3 + 2, none⟩) (by simp; omega) (.bool g))
    have HF := Lib.hid (show withA ls (s, t, g) w (.returned (.tuple #[.slice (some ⟨gg, 0, none⟩) n c1, .bool true])) (((w2.setCell ⟨gg, k * 3, none⟩ (.string s)).setCell ⟨gg, k * 3 + 1, none⟩ (.int .i64 t)).setCell ⟨gg, k * 3 + 2, none⟩ (.bool g)) from
      .inl ⟨k, hk, hp, hnk, _, c1, by rw [List.length_set, HN.out], OwnK.wider HPU.out (by omega) (by simp), HBF.out⟩)
    clear hp hnk hc9 hb9
    go_wp2
    exact bodyPost_ret (v := .tuple #[.slice (some ⟨gg, 0, none⟩) n c1, .bool true]) (by simp [results, Try.results73, go_sem]) rfl HF.out
  · by_cases h60 : n = 60
    · have HF := Lib.hid (show withA ls (s, t, g) w (.returned (.tuple #[.slice none 0 0, .bool false])) w2 from .inr (.inl ⟨hg, by rw [HN.out]; exact h60, none, 0, rfl, own_nil _ _ _, HB2.out⟩))
      have h60i : (n : Int) = 60 := by omega
      have h60q : ((n : Int) == 60) = true := by simp [h60i]
      clear hg
      subst h60
      go_wp2
      exact bodyPost_ret (v := .tuple #[.slice none 0 0, .bool false]) (by simp [results, Try.results73, go_sem]) rfl HF.out
    · have h60q : ((n : Int) == 60) = false := by simp; omega
      have h60d : decide ((n : Int) = 60) = false := by simp; omega
      have HBA := Lib.hid (HB2.out.trans ((below1 w2 (.cells #[.string s, .int .i64 t, .bool g] 27)).mono HB2.out.size))
      have HOA := Lib.hid (OwnK.grow (hi := 0) HO2.out (below1 w2 (.cells #[.string s, .int .i64 t, .bool g] 27)))
      have HROL := Lib.hid (k_row HO2.out HN.out)
      have HROW := Lib.hid (k_row HOA.out HN.out)
      have HNEW := Lib.hid (heap_alloc_new w2 (.cells #[.string s, .int .i64 t, .bool g] 27))
      have HB22 := Lib.hid (show Below (w.heap.size + 2) w2 w2 from Below.refl _ _)
      have hlx : w.heap.size + 2 ≤ (w2.alloc (.cells #[.string s, .int .i64 t, .bool g] 27)).heap.size := by simp; omega
      have HN1 := Lib.hid (show (ls ++ [(s, t, g)]).length = n + 1 by rw [List.length_append, HN.out]; rfl)
      have HNE := Lib.hid (show ls.length ≠ 60 by rw [HN.out]; exact h60)
      have HGG := Lib.hid hg
      clear hg
      go_wp2_with (at_builtin; refine wpList_app rfl (.tmp 28) (.tmp 30) 24 rfl (w.heap.size + 2) 27 i0 _ 3 32 Try.underlying24 hi0 hz0 hz1 hz2 rfl (by decide) (.slice A1 n c1) n ((ls.map lkCs).flatten) rfl HROW.out (some ⟨w2.heap.size, 0, none⟩) 1 1 [.string s, .int .i64 t, .bool g] rfl rfl (fun _ => ⟨_, rfl, World.news_of_block (cs := #[.string s, .int .i64 t, .bool g]) (t := 27) (fr := (0, 0)) HNEW.out⟩) (by simp [Value.oneCell']) (by unfold maxLen; omega) (by omega) hlx ?_; intro v5 w5 hown hgr _; have hb5 := below_app HB22.out (by omega) HROL.out hgr; have HB5 := Lib.hid (HB2.out.trans (hb5.mono (by omega))); obtain ⟨A5, c5, rfl, ho5⟩ := k_snoc HN.out hown; have HF := Lib.hid (show withA ls (s, t, g) w (.returned (.tuple #[.slice A5 (n + 1) c5, .bool true])) w5 from .inr (.inr ⟨HGG.out, HNE.out, A5, c5, by rw [HN1.out], OwnK.wider ho5 (by omega) (Nat.le_refl _), HB5.out⟩)); clear hown hgr ho5 hb5)
      exact bodyPost_ret (v := .tuple #[.slice A5 (n + 1) c5, .bool true]) (by simp [results, Try.results73, go_sem]) rfl HF.out
end Go.Proofs.Ytlfdefjkfacngaa.Lk
