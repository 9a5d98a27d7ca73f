/-
  Contracts for the comparison of cells: SameCells of the program (slices.EqualFunc, slices.Equal) and of the model.
-/
import Derived.Test.YtndmjeaafnbgaaaMem
import Derived.Test.YtndmjeaafnbgaaaBel
import Derived.Laws.StructEq
import Derived.ChangeKeysEq
namespace Go.Proofs.Ytndmjeaafnbgaaa
open Go.RowKit CM
set_option linter.unusedVariables false

theorem fieldsV' : ((Try.prog.fieldsOf 97).toList.map fun f => (f.name, f.type, f.offset)) = [("Time", 3, 0), ("Val", 9, 1), ("Gone", 4, 2)] := by kernel_rfl
theorem fieldsW' : ((Try.prog.fieldsOf 34).toList.map fun f => (f.name, f.type, f.offset)) = [("Key", 9, 0), ("Val", 9, 1), ("Gone", 4, 2)] := by kernel_rfl
theorem fields3 {fs : List Field} {a b c : String × TypeId × Nat} (h : fs.map (fun f => (f.name, f.type, f.offset)) = [a, b, c]) :
    ∃ f g k, fs = [f, g, k] ∧ (f.name, f.type, f.offset) = a ∧ (g.name, g.type, g.offset) = b ∧ (k.name, k.type, k.offset) = c := by
  have hl := congrArg List.length h
  simp only [List.length_map, List.length_cons, List.length_nil] at hl
  obtain ⟨f, g, k, rfl⟩ : ∃ f g k, fs = [f, g, k] := by
    rcases fs with _ | ⟨f, _ | ⟨g, _ | ⟨k, _ | ⟨u, l⟩⟩⟩⟩
    · simp at hl
    · simp at hl
    · simp at hl
    · exact ⟨f, g, k, rfl⟩
    · simp at hl
  simp only [List.map_cons, List.map_nil, List.cons.injEq, and_true] at h
  exact ⟨f, g, k, rfl, h.1, h.2.1, h.2.2⟩

theorem eq_ver (w : World) (a b : Int) (s t : ByteArray) (g h : Bool) :
    (Op.equalIn 10000 97 (.agg #[.int .i64 a, .string s, .bool g]) (.agg #[.int .i64 b, .string t, .bool h])).run Try.prog w = .ok (a == b && (s.toList == t.toList && g == h)) w := by
  have hq : ∀ x y : Int, (Op.equalIn 9999 3 (.int .i64 x) (.int .i64 y)).run Try.prog w = .ok (x == y) w := fun x y => run_equalIn_int w 9998 3 .i64 .i64 x y Try.underlying3
  have hs : ∀ x y : ByteArray, (Op.equalIn 9999 9 (.string x) (.string y)).run Try.prog w = .ok (x.toList == y.toList) w := fun x y => run_equalIn_string w 9998 9 x y Try.underlying9
  have hb : ∀ x y : Bool, (Op.equalIn 9999 4 (.bool x) (.bool y)).run Try.prog w = .ok (x == y) w := fun x y => run_equalIn_bool w 9998 4 x y Try.underlying4
  have hp : ∀ (t : TypeId) (xs : Array Value) (o : Nat) (v : Value), t = 3 ∨ t = 9 ∨ t = 4 → xs[o]? = some v → (part t xs o).run Try.prog w = .ok v w := fun t xs o v ht h => by
    rcases ht with rfl | rfl | rfl
    · exact run_part_plain w (by kernel_rfl) h
    · exact run_part_plain w (by kernel_rfl) h
    · exact run_part_plain w (by kernel_rfl) h
  obtain ⟨f1, f2, f3, hfg, e1, e2, e3⟩ := fields3 fieldsV'
  simp only [Prod.mk.injEq] at e1 e2 e3
  obtain ⟨a1, a2, a3⟩ := e1
  obtain ⟨b1, b2, b3⟩ := e2
  obtain ⟨c1, c2, c3⟩ := e3
  rw [show (10000 : Nat) = 9999 + 1 from rfl, run_equalIn_struct w 9999 97 _ _ (by kernel_rfl) (by kernel_rfl), hfg]
  simp only [Op.eqFields, Sem.run_bind, ne_eq, a1, a2, a3, b1, b2, b3, c1, c2, c3, not_false_eq_true, if_true, String.reduceEq]
  rw [hp 3 _ 0 (.int .i64 a) (by simp) rfl]
  simp only [Result.andThen_ok]
  rw [hp 3 _ 0 (.int .i64 b) (by simp) rfl]
  simp only [Result.andThen_ok, hq]
  cases h0 : (a == b)
  · simp
  · simp only [Bool.not_true, Bool.false_eq_true, if_false, Sem.run_bind]
    rw [hp 9 _ 1 (.string s) (by simp) rfl]
    simp only [Result.andThen_ok]
    rw [hp 9 _ 1 (.string t) (by simp) rfl]
    simp only [Result.andThen_ok, hs]
    cases h1 : (s.toList == t.toList)
    · simp
    · simp only [Bool.not_true, Bool.false_eq_true, if_false, Sem.run_bind]
      rw [hp 4 _ 2 (.bool g) (by simp) rfl]
      simp only [Result.andThen_ok]
      rw [hp 4 _ 2 (.bool h) (by simp) rfl]
      simp only [Result.andThen_ok, hb]
      cases h2 : (g == h) <;> simp

theorem ver_same {a b : Int} {s t : ByteArray} {g h : Bool} (e : (a == b && (s.toList == t.toList && g == h)) = true) : ((a, s, g) : (Int × ByteArray × Bool)) = (b, t, h) := by
  simp only [Bool.and_eq_true, beq_iff_eq] at e
  obtain ⟨rfl, e2, rfl⟩ := e
  rw [list_inj e2]
theorem ver_other {a b : Int} {s t : ByteArray} {g h : Bool} (e : (a == b && (s.toList == t.toList && g == h)) = false) : ((a, s, g) : (Int × ByteArray × Bool)) ≠ (b, t, h) := by
  intro e2
  simp only [Prod.mk.injEq] at e2
  obtain ⟨rfl, rfl, rfl⟩ := e2
  simp at e
theorem take_eq_succ {α : Type} {l m : List α} {k : Nat} (h : l.take k = m.take k) (h1 : k < l.length) (h2 : k < m.length) (he : l[k] = m[k]) : l.take (k + 1) = m.take (k + 1) := by
  rw [List.take_succ_eq_append_getElem h1, List.take_succ_eq_append_getElem h2, h, he]
theorem ne_at {α : Type} {l m : List α} {k : Nat} (h1 : k < l.length) (h2 : k < m.length) (he : l[k] ≠ m[k]) : l ≠ m := fun e => by subst e; exact he rfl
theorem take_eq_all {α : Type} {l m : List α} {k : Nat} (h : l.take k = m.take k) (h1 : l.length ≤ k) (h2 : m.length ≤ k) : l = m := by
  rwa [List.take_of_length_le h1, List.take_of_length_le h2] at h

set_option maxRecDepth 100000 in
set_option maxHeartbeats 1000000 in
theorem equalVers_any (A A' : Option Addr) (n m c c' : Nat) (vs us : List (Int × ByteArray × Bool)) (B : Nat) (w : World) (hn : vs.length = n) (hm : us.length = m) (h : VersB w B A vs) (h' : VersB w B A' us) (hB : B ≤ w.heap.size) (hl : n ≤ 1048576) (hl' : m ≤ 1048576) :
    Calls Try.prog 150 #[.slice A n c, .slice A' m c'] w fun e w' => e = .returned (.bool (decide (vs = us))) ∧ ∃ q, w' = w.drewN q := by
  have hge := Nat.le_of_eq hn
  have hle := Nat.le_of_eq hn.symm
  have hge' := Nat.le_of_eq hm
  have hle' := Nat.le_of_eq hm.symm
  have HS := Lib.hid h
  have HS' := Lib.hid h'
  obtain ⟨r, hr⟩ : ∃ r, r = decide (vs = us) := ⟨_, rfl⟩
  have HR := Lib.hid hr
  rw [← hr]
  clear hn hm h h' hr
  by_cases hnm : n = m
  · subst hnm
    go_enter Try.func150, Try.ntmps150
    go_wp2
    go_loopw [13] (fun i wr => ∃ k : Nat, k ≤ n ∧ i = .int .i64 k ∧ Hid (vs.take k = us.take k) ∧ ∃ q, wr = w.drewN q) (fun i _ => n - (intOf i).toNat)
    case atStart => exact ⟨0, by omega, rfl, rfl, 0, rfl⟩
    case round =>
      obtain ⟨k, hk, rfl, HT, q, rfl⟩ := hrel
      by_cases hlt : k < n
      · obtain ⟨b, off, rfl, hbB, hc⟩ := HS.out.get (by omega)
        obtain ⟨b', off', rfl, hbB', hc'⟩ := HS'.out.get (by omega)
        obtain ⟨c0, c1, c2⟩ := hc k (by omega)
        obtain ⟨d0, d1, d2⟩ := hc' k (by omega)
        obtain ⟨x, hx⟩ : ∃ x, x = vs[k]'(by omega) := ⟨_, rfl⟩
        obtain ⟨y, hy⟩ : ∃ y, y = us[k]'(by omega) := ⟨_, rfl⟩
        rw [← hx] at c0 c1 c2
        rw [← hy] at d0 d1 d2
        obtain ⟨t1, s1, g1⟩ := x
        obtain ⟨t2, s2, g2⟩ := y
        simp only at c0 c1 c2 d0 d1 d2
        have HX := Lib.hid hx
        have HY := Lib.hid hy
        have hk0 : (0 : Int) ≤ (k : Int) := by omega
        have hkn : (k : Int) < (n : Int) := by omega
        have heq := fun W => eq_ver W t1 t2 s1 s2 g1 g2
        clear hc hc' hx hy
        cases hv : (t1 == t2 && (s1.toList == s2.toList && g1 == g2)) with
        | false =>
          rw [hv] at heq
          have HNO := Lib.hid (ret_bool (show false = r by rw [HR.out]; exact (decide_eq_false (ne_at (k := k) (by omega) (by omega) (by rw [← HX.out, ← HY.out]; exact ver_other hv))).symm))
          clear hv
          go_wp2_with fail
          go_quiet (fail)
          go_wp2
          go_ret
          exact ⟨HNO.out, _, by rw [World.drewN_drewN]⟩
        | true =>
          rw [hv] at heq
          have HT' := Lib.hid (take_eq_succ HT.out (show k < vs.length by omega) (show k < us.length by omega) (by rw [← HX.out, ← HY.out]; exact ver_same hv))
          clear hv
          go_wp2_with fail
          go_quiet (fail)
          go_wp2
          go_roundw
          case rel => exact ⟨k + 1, by omega, by go_num, HT'.out, _, rfl⟩
          case measure => simp [intOf]; omega
      · have HYES := Lib.hid (ret_bool (show true = r by rw [HR.out]; exact (decide_eq_true (take_eq_all HT.out (by omega) (by omega))).symm))
        go_wp2
        go_ret
        exact ⟨HYES.out, _, rfl⟩
  · have HNO := Lib.hid (ret_bool (show false = r by rw [HR.out]; exact (decide_eq_false (fun e => by subst e; omega)).symm))
    have hne : ((n : Int) == (m : Int)) = false := by simp; omega
    go_enter Try.func150, Try.ntmps150
    go_wp2
    go_ret
    exact ⟨HNO.out, 0, rfl⟩

set_option maxHeartbeats 1000000 in
theorem sameCell_any (k1 k2 : ByteArray) (A A' : Option Addr) (n m c c' : Nat) (vs us : List (Int × ByteArray × Bool)) (B : Nat) (w : World) (hn : vs.length = n) (hm : us.length = m) (h : VersB w B A vs) (h' : VersB w B A' us) (hB : B ≤ w.heap.size) (hl : n ≤ 1048576) (hl' : m ≤ 1048576) :
    Calls Try.prog 91 #[.agg #[.string k1, .slice A n c], .agg #[.string k2, .slice A' m c']] w fun e w' => e = .returned (.bool (decide (((k1, vs) : (ByteArray × List (Int × ByteArray × Bool))) = (k2, us)))) ∧ Below w.heap.size w w' := by
  have HC := Lib.hid (fun W (hW : Below w.heap.size w W) => equalVers_any A A' n m c c' vs us B W hn hm (h.below (hW.mono hB)) (h'.below (hW.mono hB)) (Nat.le_trans hB hW.size) hl hl')
  obtain ⟨r, hr⟩ : ∃ r, r = decide (((k1, vs) : (ByteArray × List (Int × ByteArray × Bool))) = (k2, us)) := ⟨_, rfl⟩
  have HR := Lib.hid hr
  rw [← hr]
  clear hn hm h h' hr
  by_cases hk : k1 = k2
  · have HE := Lib.hid (ret_bool (show decide (vs = us) = r by rw [HR.out, hk]; simp))
    have hkb : (k1.toList == k2.toList) = true := by rw [hk]; simp
    clear hk
    go_enter Try.func91, Try.ntmps91
    go_wp2_with fail
    refine (HC.out _ (below2 _ _ _)).mono ?_
    rintro e w4 ⟨rfl, q, rfl⟩
    go_wp2
    go_ret
    exact ⟨HE.out, below_drewN (below2 _ _ _) _⟩
  · have HNO := Lib.hid (ret_bool (show false = r by rw [HR.out]; exact (decide_eq_false (fun e => hk (by simp only [Prod.mk.injEq] at e; exact e.1))).symm))
    have hkb : (k1.toList == k2.toList) = false := beq_eq_false_iff_ne.2 fun e => hk (list_inj e)
    clear hk
    go_enter Try.func91, Try.ntmps91
    go_wp2
    go_ret
    exact ⟨HNO.out, below2 _ _ _⟩

set_option maxRecDepth 100000 in
set_option maxHeartbeats 1000000 in
theorem equalFunc_any (A A' : Option Addr) (n m c c' : Nat) (hs gs : List (ByteArray × Option Addr × Nat × List (Int × ByteArray × Bool))) (B : Nat) (w : World) (hn : hs.length = n) (hm : gs.length = m) (h : CellsB w B A hs) (h' : CellsB w B A' gs) (hB : B ≤ w.heap.size) (hsm : HSmall hs) (hsm' : HSmall gs) :
    Calls Try.prog 90 #[.slice A n c, .slice A' m c', .func (.func 91) #[] #[]] w fun e w' => e = .returned (.bool (decide (hs.map dat = gs.map dat))) ∧ Below w.heap.size w w' := by
  obtain ⟨hl, hms⟩ := hsm
  obtain ⟨hl', hms'⟩ := hsm'
  have hge := Nat.le_of_eq hn
  have hle := Nat.le_of_eq hn.symm
  have hge' := Nat.le_of_eq hm
  have hle' := Nat.le_of_eq hm.symm
  have hnl : n ≤ 1048576 := by omega
  have HS := Lib.hid h
  have HS' := Lib.hid h'
  have HM := Lib.hid hms
  have HM' := Lib.hid hms'
  obtain ⟨r, hr⟩ : ∃ r, r = decide (hs.map dat = gs.map dat) := ⟨_, rfl⟩
  have HR := Lib.hid hr
  rw [← hr]
  clear hn hm h h' hr hms hms'
  by_cases hnm : n = m
  · subst hnm
    go_enter Try.func90, Try.ntmps90
    go_wp2
    go_loopw [17] (fun i wr => ∃ k : Nat, k ≤ n ∧ i = .int .i64 k ∧ Hid ((hs.map dat).take k = (gs.map dat).take k) ∧ Below w.heap.size w wr) (fun i _ => n - (intOf i).toNat)
    case atStart => exact ⟨0, by omega, rfl, rfl, Below.refl _ _⟩
    case round =>
      obtain ⟨k, hk, rfl, HT, hb⟩ := hrel
      by_cases hlt : k < n
      · obtain ⟨b, off, rfl, hbB, hc⟩ := HS.out.get (by omega)
        obtain ⟨b', off', rfl, hbB', hc'⟩ := HS'.out.get (by omega)
        obtain ⟨hc0, hc1⟩ := hc k (by omega)
        obtain ⟨hd0, hd1⟩ := hc' k (by omega)
        have c0 := (hb.cell (p := ⟨b, off + k * 2, none⟩) (Nat.lt_of_lt_of_le hbB hB)).trans hc0
        have c1 := (hb.cell (p := ⟨b, off + k * 2 + 1, none⟩) (Nat.lt_of_lt_of_le hbB hB)).trans hc1
        have d0 := (hb.cell (p := ⟨b', off' + k * 2, none⟩) (Nat.lt_of_lt_of_le hbB' hB)).trans hd0
        have d1 := (hb.cell (p := ⟨b', off' + k * 2 + 1, none⟩) (Nat.lt_of_lt_of_le hbB' hB)).trans hd1
        have hv := (HS.out.vers k (by omega)).below (hb.mono hB)
        have hv' := (HS'.out.vers k (by omega)).below (hb.mono hB)
        have hs1 := (HM.out _ (List.getElem_mem (show k < hs.length by omega))).2.1
        have hs2 := (HM'.out _ (List.getElem_mem (show k < gs.length by omega))).2.1
        have hda : (hs.map dat)[k]'(by simp; omega) = dat (hs[k]'(by omega)) := by simp
        have hdb : (gs.map dat)[k]'(by simp; omega) = dat (gs[k]'(by omega)) := by simp
        obtain ⟨x, hx⟩ : ∃ x, x = hs[k]'(by omega) := ⟨_, rfl⟩
        obtain ⟨y, hy⟩ : ∃ y, y = gs[k]'(by omega) := ⟨_, rfl⟩
        rw [← hx] at c0 c1 hv hs1 hda
        rw [← hy] at d0 d1 hv' hs2 hdb
        obtain ⟨k1, ad, cp, vs⟩ := x
        obtain ⟨k2, ad', cp', us⟩ := y
        simp only [dat] at c0 c1 d0 d1 hv hv' hs1 hs2 hda hdb
        have HX := Lib.hid hda
        have HY := Lib.hid hdb
        have HB := Lib.hid hb
        have hbs : b < wr.heap.size := Nat.lt_of_lt_of_le hbB (Nat.le_trans hB hb.size)
        have hbs' : b' < wr.heap.size := Nat.lt_of_lt_of_le hbB' (Nat.le_trans hB hb.size)
        have HC := Lib.hid (fun W (hW : Below wr.heap.size wr W) => sameCell_any k1 k2 ad ad' vs.length us.length cp cp' vs us B W rfl rfl (hv.below (hW.mono (Nat.le_trans hB hb.size))) (hv'.below (hW.mono (Nat.le_trans hB hb.size))) (Nat.le_trans hB (Nat.le_trans hb.size hW.size)) hs1 hs2)
        clear hc hc' hx hy hc0 hc1 hd0 hd1 hda hdb hb hv hv' hs1 hs2
        cases he : decide (((k1, vs) : (ByteArray × List (Int × ByteArray × Bool))) = (k2, us)) with
        | false =>
          rw [he] at HC
          have HNO := Lib.hid (ret_bool (show false = r by rw [HR.out]; exact (decide_eq_false (ne_at (k := k) (by simp; omega) (by simp; omega) (by rw [HX.out, HY.out]; exact of_decide_eq_false he))).symm))
          clear he
          go_wp2_with fail
          refine (HC.out _ (below2 _ _ _)).mono ?_
          rintro e w4 ⟨rfl, hb4⟩
          have HB4 := Lib.hid (HB.out.trans (((below2 wr _ _).trans (hb4.mono (below2 wr _ _).size)).mono HB.out.size))
          clear hb4
          go_wp2
          go_ret
          exact ⟨HNO.out, HB4.out⟩
        | true =>
          rw [he] at HC
          have HT' := Lib.hid (take_eq_succ HT.out (show k < (hs.map dat).length by simp; omega) (show k < (gs.map dat).length by simp; omega) (by rw [HX.out, HY.out]; exact of_decide_eq_true he))
          clear he
          go_wp2_with fail
          refine (HC.out _ (below2 _ _ _)).mono ?_
          rintro e w4 ⟨rfl, hb4⟩
          have HB4 := Lib.hid (HB.out.trans (((below2 wr _ _).trans (hb4.mono (below2 wr _ _).size)).mono HB.out.size))
          clear hb4
          go_wp2
          go_roundw
          case rel => exact ⟨k + 1, by omega, by go_num, HT'.out, HB4.out⟩
          case measure => simp [intOf]; omega
      · have HYES := Lib.hid (ret_bool (show true = r by rw [HR.out]; exact (decide_eq_true (take_eq_all HT.out (by simp; omega) (by simp; omega))).symm))
        go_wp2
        go_ret
        exact ⟨HYES.out, hb⟩
  · have HNO := Lib.hid (ret_bool (show false = r by rw [HR.out]; exact (decide_eq_false (fun e => by have := dats_len e; omega)).symm))
    have hne : ((n : Int) == (m : Int)) = false := by simp; omega
    go_enter Try.func90, Try.ntmps90
    go_wp2
    go_ret
    exact ⟨HNO.out, Below.refl _ _⟩

set_option maxRecDepth 100000 in
set_option maxHeartbeats 2000000 in
theorem specSameCells_any (A A' : Option Addr) (n m c c' : Nat) (hs gs : List (ByteArray × Option Addr × Nat × List (Int × ByteArray × Bool))) (B : Nat) (w : World) (hn : hs.length = n) (hm : gs.length = m) (h : CellsB w B A hs) (h' : CellsB w B A' gs) (hB : B ≤ w.heap.size) (hsm : HSmall hs) (hsm' : HSmall gs) :
    Calls Try.prog 15 #[.slice A n c, .slice A' m c'] w fun e w' => e = .returned (.bool (decide (hs.map dat = gs.map dat))) ∧ Below w.heap.size w w' := by
  obtain ⟨hl, hms⟩ := hsm
  obtain ⟨hl', hms'⟩ := hsm'
  have hge := Nat.le_of_eq hn
  have hle := Nat.le_of_eq hn.symm
  have hge' := Nat.le_of_eq hm
  have hle' := Nat.le_of_eq hm.symm
  have hnl : n ≤ 1048576 := by omega
  have HS := Lib.hid h
  have HS' := Lib.hid h'
  have HM := Lib.hid hms
  have HM' := Lib.hid hms'
  obtain ⟨r, hr⟩ : ∃ r, r = decide (hs.map dat = gs.map dat) := ⟨_, rfl⟩
  have HR := Lib.hid hr
  rw [← hr]
  clear hn hm h h' hr hms hms'
  by_cases hnm : n = m
  · subst hnm
    go_enter Try.func15, Try.ntmps15
    go_wp2
    go_loopw [16] (fun i wr => ∃ k : Nat, k ≤ n ∧ i = .int .i64 k ∧ Hid ((hs.map dat).take k = (gs.map dat).take k) ∧ Below w.heap.size w wr) (fun i _ => n - (intOf i).toNat)
    case atStart => exact ⟨0, by omega, rfl, rfl, Below.refl _ _⟩
    case round =>
      obtain ⟨k, hk, rfl, HT, hb⟩ := hrel
      by_cases hlt : k < n
      · obtain ⟨b, off, rfl, hbB, hc⟩ := HS.out.get (by omega)
        obtain ⟨b', off', rfl, hbB', hc'⟩ := HS'.out.get (by omega)
        obtain ⟨hc0, hc1⟩ := hc k (by omega)
        obtain ⟨hd0, hd1⟩ := hc' k (by omega)
        have c0 := (hb.cell (p := ⟨b, off + k * 2, none⟩) (Nat.lt_of_lt_of_le hbB hB)).trans hc0
        have c1 := (hb.cell (p := ⟨b, off + k * 2 + 1, none⟩) (Nat.lt_of_lt_of_le hbB hB)).trans hc1
        have d0 := (hb.cell (p := ⟨b', off' + k * 2, none⟩) (Nat.lt_of_lt_of_le hbB' hB)).trans hd0
        have d1 := (hb.cell (p := ⟨b', off' + k * 2 + 1, none⟩) (Nat.lt_of_lt_of_le hbB' hB)).trans hd1
        have hv := (HS.out.vers k (by omega)).below (hb.mono hB)
        have hv' := (HS'.out.vers k (by omega)).below (hb.mono hB)
        have hs1 := (HM.out _ (List.getElem_mem (show k < hs.length by omega))).2.1
        have hs2 := (HM'.out _ (List.getElem_mem (show k < gs.length by omega))).2.1
        have hda : (hs.map dat)[k]'(by simp; omega) = dat (hs[k]'(by omega)) := by simp
        have hdb : (gs.map dat)[k]'(by simp; omega) = dat (gs[k]'(by omega)) := by simp
        obtain ⟨x, hx⟩ : ∃ x, x = hs[k]'(by omega) := ⟨_, rfl⟩
        obtain ⟨y, hy⟩ : ∃ y, y = gs[k]'(by omega) := ⟨_, rfl⟩
        rw [← hx] at c0 c1 hv hs1 hda
        rw [← hy] at d0 d1 hv' hs2 hdb
        obtain ⟨k1, ad, cp, vs⟩ := x
        obtain ⟨k2, ad', cp', us⟩ := y
        simp only [dat] at c0 c1 d0 d1 hv hv' hs1 hs2 hda hdb
        have HX := Lib.hid hda
        have HY := Lib.hid hdb
        have HB := Lib.hid hb
        have hbs : b < wr.heap.size := Nat.lt_of_lt_of_le hbB (Nat.le_trans hB hb.size)
        have hbs' : b' < wr.heap.size := Nat.lt_of_lt_of_le hbB' (Nat.le_trans hB hb.size)
        have hw2 := below2 wr (.cells #[.string k1, .slice ad vs.length cp] 95) (.cells #[.string k2, .slice ad' us.length cp'] 95)
        have HB2 := Lib.hid (HB.out.trans (hw2.mono HB.out.size))
        have HV := Lib.hid (hv.below (hw2.mono (Nat.le_trans hB hb.size)))
        have HV' := Lib.hid (hv'.below (hw2.mono (Nat.le_trans hB hb.size)))
        have HNE := Lib.hid (fun hne : ((k1, vs) : (ByteArray × List (Int × ByteArray × Bool))) ≠ (k2, us) => ret_bool (show false = r by rw [HR.out]; exact (decide_eq_false (ne_at (k := k) (by simp; omega) (by simp; omega) (by rw [HX.out, HY.out]; exact hne))).symm))
        clear hc hc' hx hy hc0 hc1 hd0 hd1 hda hdb hb hv hv' hw2
        by_cases hkk : k1 = k2
        · by_cases hll : vs.length = us.length
          · have hkb : (k1.toList == k2.toList) = true := by rw [hkk]; simp
            have hu : us.length ≤ vs.length := by omega
            have hu' : vs.length ≤ us.length := by omega
            rw [← hll] at d1
            have HVl : Hid (VersB ((wr.alloc (.cells #[.string k1, .slice ad vs.length cp] 95)).alloc (.cells #[.string k2, .slice ad' vs.length cp'] 95)) B ad vs) := by rw [hll] at HV ⊢; exact HV
            have HVl' : Hid (VersB ((wr.alloc (.cells #[.string k1, .slice ad vs.length cp] 95)).alloc (.cells #[.string k2, .slice ad' vs.length cp'] 95)) B ad' us) := by rw [hll] at HV' ⊢; exact HV'
            have HB2l : Hid (Below w.heap.size w ((wr.alloc (.cells #[.string k1, .slice ad vs.length cp] 95)).alloc (.cells #[.string k2, .slice ad' vs.length cp'] 95))) := by rw [hll] at HB2 ⊢; exact HB2
            have hW := heap_alloc_new (wr.alloc (.cells #[.string k1, .slice ad vs.length cp] 95)) (.cells #[.string k2, .slice ad' vs.length cp'] 95)
            have hW0 := (Below.heap_alloc (wr.alloc (.cells #[.string k1, .slice ad vs.length cp] 95)) (.cells #[.string k2, .slice ad' vs.length cp'] 95) wr.heap.size (by simp)).trans (heap_alloc_new wr _)
            have x1 := cell_blk (i := 1) hW0 rfl
            have y1 := cell_blk (i := 1) hW rfl
            rw [World.size_alloc] at y1
            have HK := Lib.hid hkk
            obtain ⟨N, hN⟩ : ∃ N, N = vs.length := ⟨_, rfl⟩
            rw [← hN] at x1 y1 c1 d1 hs1 hu hu' HVl HVl' HB2l
            have hN1 : N ≤ vs.length := by omega
            have hN2 : vs.length ≤ N := by omega
            clear HV HV' HB2 hkk hll hW hW0 hN
            go_wp2
            go_loopw [42] (fun i wr' => ∃ j : Nat, j ≤ N ∧ i = .int .i64 j ∧ Hid (vs.take j = us.take j) ∧ ∃ q, wr' = ((wr.alloc (.cells #[.string k1, .slice ad N cp] 95)).alloc (.cells #[.string k2, .slice ad' N cp'] 95)).drewN q) (fun i _ => N - (intOf i).toNat)
            case atStart => exact ⟨0, by omega, rfl, rfl, 0, rfl⟩
            case round =>
              obtain ⟨j, hj, rfl, HTj, q, rfl⟩ := hrel
              by_cases hjl : j < N
              · obtain ⟨f, fo, rfl, hfB, hf⟩ := HVl.out.get (by omega)
                obtain ⟨f', fo', rfl, hfB', hf'⟩ := HVl'.out.get (by omega)
                obtain ⟨f0, f1, f2⟩ := hf j (by omega)
                obtain ⟨e0, e1, e2⟩ := hf' j (by omega)
                obtain ⟨x, hx⟩ : ∃ x, x = vs[j]'(by omega) := ⟨_, rfl⟩
                obtain ⟨y, hy⟩ : ∃ y, y = us[j]'(by omega) := ⟨_, rfl⟩
                rw [← hx] at f0 f1 f2
                rw [← hy] at e0 e1 e2
                obtain ⟨t1, s1, g1⟩ := x
                obtain ⟨t2, s2, g2⟩ := y
                simp only at f0 f1 f2 e0 e1 e2
                have HXj := Lib.hid hx
                have HYj := Lib.hid hy
                have hj0 : (0 : Int) ≤ (j : Int) := by omega
                have hjn : (j : Int) < (N : Int) := by omega
                have heq := fun W => eq_ver W t1 t2 s1 s2 g1 g2
                clear hf hf' hx hy
                cases hv : (t1 == t2 && (s1.toList == s2.toList && g1 == g2)) with
                | false =>
                  rw [hv] at heq
                  have HNO := Lib.hid (HNE.out (fun e => by
                    simp only [Prod.mk.injEq] at e
                    exact ne_at (k := j) (by omega) (by omega) (by rw [← HXj.out, ← HYj.out]; exact ver_other hv) e.2))
                  clear hv
                  go_wp2_with fail
                  go_quiet (fail)
                  go_wp2
                  go_ret
                  exact ⟨HNO.out, below_drewN (below_drewN HB2l.out _) _⟩
                | true =>
                  rw [hv] at heq
                  have HT' := Lib.hid (take_eq_succ HTj.out (show j < vs.length by omega) (show j < us.length by omega) (by rw [← HXj.out, ← HYj.out]; exact ver_same hv))
                  clear hv
                  go_wp2_with fail
                  go_quiet (fail)
                  go_wp2
                  go_roundw
                  case rel => exact ⟨j + 1, by omega, by go_num, HT'.out, _, rfl⟩
                  case measure => simp [intOf]; omega
              · have HT' := Lib.hid (take_eq_succ HT.out (show k < (hs.map dat).length by simp; omega) (show k < (gs.map dat).length by simp; omega) (by rw [HX.out, HY.out, HK.out, take_eq_all HTj.out (by omega) (by omega)]))
                go_wp2
                go_roundw
                case rel => exact ⟨k + 1, by omega, by go_num, HT'.out, below_drewN HB2l.out _⟩
                case measure => simp [intOf]; omega
          · have hkb : (k1.toList == k2.toList) = true := by rw [hkk]; simp
            have hne : ((vs.length : Int) == (us.length : Int)) = false := by simp; omega
            have HNO := Lib.hid (HNE.out (fun e => by simp only [Prod.mk.injEq] at e; exact hll (by rw [e.2])))
            clear hkk hll
            go_wp2
            go_ret
            exact ⟨HNO.out, HB2.out⟩
        · have hkb : (k1.toList == k2.toList) = false := beq_eq_false_iff_ne.2 fun e => hkk (list_inj e)
          have HNO := Lib.hid (HNE.out (fun e => by simp only [Prod.mk.injEq] at e; exact hkk e.1))
          clear hkk
          go_wp2
          go_ret
          exact ⟨HNO.out, HB2.out⟩
      · have HYES := Lib.hid (ret_bool (show true = r by rw [HR.out]; exact (decide_eq_true (take_eq_all HT.out (by simp; omega) (by simp; omega))).symm))
        go_wp2
        go_ret
        exact ⟨HYES.out, hb⟩
  · have HNO := Lib.hid (ret_bool (show false = r by rw [HR.out]; exact (decide_eq_false (fun e => by have := dats_len e; omega)).symm))
    have hne : ((n : Int) == (m : Int)) = false := by simp; omega
    go_enter Try.func15, Try.ntmps15
    go_wp2
    go_ret
    exact ⟨HNO.out, Below.refl _ _⟩

theorem sameCells_any (A A' : Option Addr) (n m c c' : Nat) (hs gs : List (ByteArray × Option Addr × Nat × List (Int × ByteArray × Bool))) (B : Nat) (w : World) (hn : hs.length = n) (hm : gs.length = m) (h : CellsB w B A hs) (h' : CellsB w B A' gs) (hB : B ≤ w.heap.size) (hl : HSmall hs) (hl' : HSmall gs) :
    Calls Try.prog 27 #[.slice A n c, .slice A' m c'] w fun e w' => e = .returned (.bool (decide (hs.map dat = gs.map dat))) ∧ Below w.heap.size w w' := by
  have HC := Lib.hid (equalFunc_any A A' n m c c' hs gs B w hn hm h h' hB hl hl')
  clear hn hm h h' hl hl'
  go_enter Try.func27, Try.ntmps27
  go_wp2_with fail
  refine HC.out.mono ?_
  rintro e w4 ⟨rfl, hb4⟩
  go_wp2
  go_ret
  exact ⟨rfl, hb4⟩
end Go.Proofs.Ytndmjeaafnbgaaa
