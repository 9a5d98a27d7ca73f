/-
  The contract of the program's framesIn: the closure that reads frame after frame into a captured slice, and may panic; tryRead with it; framesIn.
-/
import Derived.Test.YtcjejbnogghkcaaDk4
namespace Go.Proofs.Ytcjejbnogghkcaa.Dk
open Go.RowKit C1
set_option linter.unusedVariables false
set_option linter.unusedSimpArgs false

theorem blk_lt {w : World} {g : Nat} {o : Obj} (h : w.heap[g]? = some o) : g < w.heap.size := (Array.getElem?_eq_some_iff.1 h).1
theorem row_below {w w' : World} {lo n sz : Nat} {t : TypeId} {v : Value} {xs : List Value} (h : w.ownsRow lo t sz v n xs) (hb : Below w.heap.size w w') : w'.ownsRow lo t sz v n xs := by
  refine ⟨h.1, ?_⟩
  rcases h.2 with h0 | ⟨b, cap, cur, e1, e2, hh, e3⟩
  · exact .inl h0
  · exact .inr ⟨b, cap, cur, e1, e2, (hb.block b (blk_lt hh)).trans hh, e3⟩
theorem row_set {w : World} {lo n sz : Nat} {t : TypeId} {v : Value} {xs : List Value} (h : w.ownsRow lo t sz v n xs) {p : Addr} (hp : p.block < lo) (u : Value) : (w.setCell p u).ownsRow lo t sz v n xs := by
  refine ⟨h.1, ?_⟩
  rcases h.2 with h0 | ⟨b, cap, cur, e1, e2, hh, e3⟩
  · exact .inl h0
  · exact .inr ⟨b, cap, cur, e1, e2, (Below.heap_setCell _ _ _ _ (by omega)).trans hh, e3⟩
theorem row_mono {w : World} {lo lo' n sz : Nat} {t : TypeId} {v : Value} {xs : List Value} (h : w.ownsRow lo t sz v n xs) (hl : lo' ≤ lo) : w.ownsRow lo' t sz v n xs := by
  refine ⟨h.1, ?_⟩
  rcases h.2 with h0 | ⟨b, cap, cur, e1, e2, hh, e3⟩
  · exact .inl h0
  · exact .inr ⟨b, cap, cur, e1, Nat.le_trans hl e2, hh, e3⟩
theorem row_two {w w' : World} {g h lo n sz : Nat} {t : TypeId} {v : Value} {xs : List Value} (k : w.ownsRow lo t sz v n xs) (ht : Two w w' g h) (hg : g < lo) (hh : h < lo) : w'.ownsRow lo t sz v n xs := by
  refine ⟨k.1, ?_⟩
  rcases k.2 with h0 | ⟨b, cap, cur, e1, e2, hb, e3⟩
  · exact .inl h0
  · exact .inr ⟨b, cap, cur, e1, e2, (ht.2.2.2.2 b (blk_lt hb) (by omega) (by omega)).trans hb, e3⟩
theorem set_one {w : World} {g : Nat} {x a : Value} {T : TypeId} (h : w.heap[g]? = some (.cells #[x] T (0, 0))) : (w.setCell ⟨g, 0, none⟩ a).heap[g]? = some (.cells #[a] T (0, 0)) := by
  simp [World.setCell, Array.getElem?_modify, h]
theorem set_oth {w : World} {g : Nat} {o : Obj} (h : w.heap[g]? = some o) {p : Addr} (hp : p.block ≠ g) (u : Value) : (w.setCell p u).heap[g]? = some o := (Below.heap_setCell _ _ _ _ (fun e => hp e.symm)).trans h
theorem two_grown {w w1 w3 : World} {g h : Nat} {o : Obj} {row : Option Nat} (k : Two w w1 g h) (hg : (w1.alloc o).grownBy w3 row) (hr : ∀ z, row = some z → w.heap.size ≤ z) : Two w w3 g h := by
  have h1 := hg.size
  simp only [World.size_alloc] at h1
  have h2 := k.2.2.2.1
  refine ⟨hg.os.trans k.1, hg.tape.trans k.2.1, hg.output.trans k.2.2.1, by omega, fun i hi h3 h4 => ?_⟩
  rw [hg.block i (by simp; omega) (fun e => by have := hr i e.symm; omega), Below.heap_alloc _ _ _ (by omega)]
  exact k.2.2.2.2 i hi h3 h4

theorem own_form {w : World} {base e sz n : Nat} {v : Value} {xs : List Value} (h : w.ownsRow base e sz v n xs) : ∃ A c, v = .slice A n c := by
  rcases h.2 with ⟨rfl, rfl⟩ | ⟨g, cap, cur, rfl, _⟩
  · exact ⟨_, _, rfl⟩
  · exact ⟨_, _, rfl⟩
/-- How long the slice is that a variable holds. -/
def lenAt (w : World) (g : Nat) : Nat := match w.cell? ⟨g, 0, none⟩ with | some (.slice _ n _) => n | _ => 0
theorem lenAt_of {w : World} {g n c : Nat} {A : Option Addr} (h : w.heap[g]? = some (.cells #[.slice A n c] 31 (0, 0))) : lenAt w g = n := by
  unfold lenAt
  rw [cell_of_row w g 0 _ _ (0, 0) h]
  rfl

/-- What the loop of framesIn keeps. -/
def FRel (W : World) (g0 g2 : Nat) (b : ByteArray) (n : Nat) (wr : World) : Prop :=
  ∃ (l : List ByteArray) (q : Nat) (A : Option Addr) (c : Nat), wr.heap[g0]? = some (.cells #[.slice A l.length c] 31 (0, 0)) ∧ wr.ownsRow W.heap.size 9 1 (.slice A l.length c) l.length (S9 l) ∧ wr.heap[g2]? = some (.cells #[.int .i64 (q : Int)] 3 (0, 0)) ∧
    q ≤ b.size ∧ l.length ≤ n ∧ 4 * l.length ≤ q ∧ Hid (frs b n 0 = (l ++ (frs b (n - l.length) q).1, (frs b (n - l.length) q).2)) ∧ Two W wr g0 g2
/-- What it leaves. -/
def FEnd (W : World) (g0 g2 : Nat) (b : ByteArray) (n : Nat) (w' : World) : Prop :=
  ∃ (A : Option Addr) (c : Nat), w'.heap[g0]? = some (.cells #[.slice A (frs b n 0).1.length c] 31 (0, 0)) ∧ w'.ownsRow W.heap.size 9 1 (.slice A (frs b n 0).1.length c) (frs b n 0).1.length (S9 (frs b n 0).1) ∧ w'.heap[g2]? = some (.cells #[.int .i64 ((frs b n 0).2 : Int)] 3 (0, 0)) ∧ Two W w' g0 g2
theorem FEnd.of {W wr : World} {g0 g2 : Nat} {b : ByteArray} {n q : Nat} {l : List ByteArray} {A : Option Addr} {c : Nat} (h0 : wr.heap[g0]? = some (.cells #[.slice A l.length c] 31 (0, 0))) (h1 : wr.ownsRow W.heap.size 9 1 (.slice A l.length c) l.length (S9 l)) (h2 : wr.heap[g2]? = some (.cells #[.int .i64 (q : Int)] 3 (0, 0)))
    (h3 : frs b n 0 = (l ++ (frs b (n - l.length) q).1, (frs b (n - l.length) q).2)) (h4 : frs b (n - l.length) q = ([], q)) (h5 : Two W wr g0 g2) : FEnd W g0 g2 b n wr := by
  rw [h4] at h3
  simp only [List.append_nil] at h3
  unfold FEnd
  rw [h3]
  exact ⟨A, c, h0, h1, h2, h5⟩

theorem FEnd.below {W wr w' : World} {g0 g2 : Nat} {b : ByteArray} {n : Nat} (h : FEnd W g0 g2 b n wr) (hb : Below wr.heap.size wr w') : FEnd W g0 g2 b n w' := by
  obtain ⟨A, c, h0, h1, h2, h3⟩ := h
  exact ⟨A, c, (hb.block _ (blk_lt h0)).trans h0, row_below h1 hb, (hb.block _ (blk_lt h2)).trans h2, h3.belowR hb⟩
theorem FRel.step {W w1 w3 : World} {g0 g2 : Nat} {b s : ByteArray} {n z q y c c3 : Nat} {l : List ByteArray} {A A3 : Option Addr} {o : Obj} (hz : z = l.length) (hlt : z < n) (hF : frs b n 0 = (l ++ (frs b (n - l.length) q).1, (frs b (n - l.length) q).2)) (hf : fread b q = some (s, y)) (hq : q ≤ b.size) (h4 : 4 * z ≤ q)
    (L0 : g0 < W.heap.size) (L2 : g2 < W.heap.size) (n02 : g0 ≠ g2) (hT : Two W w1 g0 g2) (h1 : w1.ownsRow W.heap.size 9 1 (.slice A z c) z (S9 l)) (hg : (w1.alloc o).grownBy w3 (Value.slice A z c).ownBlock)
    (hown : w3.ownsRow W.heap.size 9 1 (.slice A3 (z + 1) c3) (z + 1) (S9 l ++ [.string s])) (m0 : w3.heap[g0]? = some (.cells #[.slice A z c] 31 (0, 0))) (m2 : w3.heap[g2]? = some (.cells #[.int .i64 (q : Int)] 3 (0, 0))) :
    FRel W g0 g2 b n ((w3.setCell ⟨g0, 0, none⟩ (.slice A3 (z + 1) c3)).setCell ⟨g2, 0, none⟩ (.int .i64 (y : Int))) ∧ lenAt ((w3.setCell ⟨g0, 0, none⟩ (.slice A3 (z + 1) c3)).setCell ⟨g2, 0, none⟩ (.int .i64 (y : Int))) g0 = z + 1 := by
  obtain ⟨_, hlt2, hle, _, hy⟩ := fread_bytes hf hq
  have hfb := (frm_bound s).1
  have hl1 : (l ++ [s]).length = z + 1 := by simp [hz]
  have k0 : ((w3.setCell ⟨g0, 0, none⟩ (.slice A3 (z + 1) c3)).setCell ⟨g2, 0, none⟩ (.int .i64 (y : Int))).heap[g0]? = some (.cells #[.slice A3 (z + 1) c3] 31 (0, 0)) := set_oth (set_one m0) (fun e => n02 e.symm) _
  refine ⟨⟨l ++ [s], y, A3, c3, ?_, ?_, ?_, hle, ?_, ?_, ?_, ?_⟩, lenAt_of k0⟩
  · rw [hl1]; exact k0
  · rw [hl1]
    have := row_set (row_set (own_snocS hown) (p := ⟨g0, 0, none⟩) L0 (.slice A3 (z + 1) c3)) (p := ⟨g2, 0, none⟩) L2 (.int .i64 (y : Int))
    exact this
  · exact set_one (set_oth m2 n02 _)
  · rw [hl1]; omega
  · rw [hl1]; omega
  · refine Lib.hid ?_
    rw [hF, hl1, ← hz]
    obtain ⟨f, hf'⟩ : ∃ f, n - z = f + 1 := ⟨n - z - 1, by omega⟩
    rw [hf', frs_some hf, show n - (z + 1) = f by omega, List.append_assoc]
    rfl
  · exact ((two_grown hT hg (fun k hk => (h1.lt k hk).1)).set (.inl rfl) _).set (.inr (.inl rfl)) _

set_option maxRecDepth 100000 in
set_option maxHeartbeats 4000000 in
theorem inner_any (g0 g1 g2 g3 : Nat) (b : ByteArray) (n : Nat) (W : World) (hb : b.size ≤ 1048576) (hn : (n : Int) ≤ 9223372036854775807)
    (h0 : W.heap[g0]? = some (.cells #[.slice none 0 0] 31 (0, 0))) (h1 : W.heap[g1]? = some (.cells #[.int .i64 (n : Int)] 3 (0, 0))) (h2 : W.heap[g2]? = some (.cells #[.int .i64 0] 3 (0, 0))) (h3 : W.heap[g3]? = some (.cells #[.string b] 9 (0, 0)))
    (n01 : g0 ≠ g1) (n02 : g0 ≠ g2) (n03 : g0 ≠ g3) (n12 : g1 ≠ g2) (n23 : g2 ≠ g3) :
    Calls Try.prog 76 #[.pointer (some ⟨g0, 0, none⟩), .pointer (some ⟨g1, 0, none⟩), .pointer (some ⟨g2, 0, none⟩), .pointer (some ⟨g3, 0, none⟩)] W fun e w' => (e = .returned (.tuple #[]) ∨ e = .panicked bad) ∧ FEnd W g0 g2 b n w' := by
  obtain ⟨i0, hi, hz0, hz1, hz2⟩ := info_parts info9
  have L0 := blk_lt h0
  have L1 := blk_lt h1
  have L2 := blk_lt h2
  have L3 := blk_lt h3
  have H1 := Lib.hid h1
  have H3 := Lib.hid h3
  have HST := Lib.hid (show FRel W g0 g2 b n W from ⟨[], 0, none, 0, h0, World.ownsRow_nil _ _ _ _, h2, Nat.zero_le _, Nat.zero_le _, by simp, Lib.hid (by simp), Two.refl _ _ _⟩)
  have n20 : g2 ≠ g0 := fun e => n02 e.symm
  clear h0 h1 h2 h3
  go_enter Try.func76, Try.ntmps76
  go_wp2_with fail
  go_loopw [] (fun wr => FRel W g0 g2 b n wr) (fun wr => n - lenAt wr g0)
  case atStart => exact HST.out
  case round =>
    clear HST
    obtain ⟨l, q, A, c, k0, ko, k2, hq, hln, h4, HF, hT⟩ := hrel
    obtain ⟨z, hz⟩ : ∃ z, z = l.length := ⟨_, rfl⟩
    have hz' := Nat.le_of_eq hz
    have hz'' := Nat.le_of_eq hz.symm
    rw [← hz] at k0 ko hln h4
    have HLEN := Lib.hid (lenAt_of k0)
    have HZ := Lib.hid hz
    clear hz
    have c0 := cell_of_row _ _ 0 _ _ (0, 0) k0
    have c1 := cell_of_row _ _ 0 _ _ (0, 0) ((hT.2.2.2.2 g1 L1 n01.symm n12).trans H1.out)
    have c2 := cell_of_row _ _ 0 _ _ (0, 0) k2
    have c3 := cell_of_row _ _ 0 _ _ (0, 0) ((hT.2.2.2.2 g3 L3 n03.symm n23.symm).trans H3.out)
    simp only [List.getElem?_toArray, List.getElem?_cons_zero] at c0 c1 c2 c3
    have K0 := Lib.hid k0
    have K2 := Lib.hid k2
    have KO := Lib.hid ko
    have HT := Lib.hid hT
    have hws := hT.2.2.2.1
    clear k0 k2 ko hT
    by_cases hlt : z < n
    · have hlt' : (z : Int) < (n : Int) := by omega
      by_cases hqb : q < b.size
      · have hqb' : (q : Int) < (b.size : Int) := by omega
        cases hf : fread b q with
        | none =>
          have HN := Lib.hid (fun W => frameAt_no b q W hb hq hf)
          have HE := Lib.hid (FEnd.of (by rw [← HZ.out]; exact K0.out) (by rw [← HZ.out]; exact KO.out) K2.out HF.out (frs_none hf _) HT.out)
          clear hf
          go_wp2_with fail
          refine (HN.out _).mono ?_
          rintro e w1 ⟨rfl, hb1⟩
          have HE1 := Lib.hid (HE.out.below hb1)
          clear hb1
          go_wp2
          exact ⟨rfl, .inr rfl, HE1.out⟩
        | some p =>
          obtain ⟨s, y⟩ := p
          have HN := Lib.hid (fun W => frameAt_yes b s q y W hb hq hf)
          have HFD := Lib.hid hf
          clear hf
          go_wp2_with fail
          refine (HN.out _).mono ?_
          rintro e w1 ⟨rfl, hb1⟩
          have j0 := (hb1.block g0 (blk_lt K0.out)).trans K0.out
          have j2 := (hb1.block g2 (blk_lt K2.out)).trans K2.out
          have x0 := cell_of_row _ _ 0 _ _ (0, 0) j0
          simp only [List.getElem?_toArray, List.getElem?_cons_zero] at x0
          have ho1 := row_below KO.out hb1
          have hT1 := HT.out.belowR hb1
          have hw1 := hT1.2.2.2.1
          have J0 := Lib.hid j0
          have J2 := Lib.hid j2
          have HO1 := Lib.hid ho1
          have HT1 := Lib.hid hT1
          have hzb : z ≤ 262144 := by omega
          clear c0 c1 c2 c3 hb1 j0 j2 ho1 hT1
          go_wp2_with (at_builtin; refine wpList_append_own _ rfl (.tmp 22) (.tmp 24) 31 rfl W.heap.size 9 i0 (.string ⟨#[]⟩) 1 16 Try.underlying31 hi hz0 hz1 hz2 rfl (by decide) _ _ _ rfl (HO1.out.alloc _) ⟨w1.heap.size, 0, none⟩ 1 1 [.string s] rfl rfl (one_at _ _ _) (one_str _) (by unfold maxLen; omega) (by omega) (by simp; omega) ?_; intro v3 w3 hown3 hg3 _; have m0 : w3.heap[g0]? = _ := (hg3.block g0 (by simp; omega) (fun e => by have := (HO1.out.lt g0 e.symm).1; omega)).trans ((Below.heap_alloc _ _ _ (by omega)).trans J0.out); have m2 : w3.heap[g2]? = _ := (hg3.block g2 (by simp; omega) (fun e => by have := (HO1.out.lt g2 e.symm).1; omega)).trans ((Below.heap_alloc _ _ _ (by omega)).trans J2.out); have y0 := cell_of_row _ _ 0 _ _ (0, 0) m0; have y2 := cell_of_row _ _ 0 _ _ (0, 0) m2; have f0 := free_row m0 0; have f2 := free_row m2 0; obtain ⟨A3, c3, rfl⟩ : ∃ A3 c3, v3 = .slice A3 (z + 1) c3 := own_form hown3; have HS := Lib.hid (FRel.step HZ.out hlt HF.out HFD.out hq h4 L0 L2 n02 HT1.out HO1.out hg3 hown3 m0 m2); clear m0 m2 hown3 hg3)
          go_roundw
          case rel => exact HS.out.1
          case measure => rw [HS.out.2, HLEN.out]; omega
      · have HE := Lib.hid (FEnd.of (by rw [← HZ.out]; exact K0.out) (by rw [← HZ.out]; exact KO.out) K2.out HF.out (frs_none (fread_end (by omega)) _) HT.out)
        have hqb' : decide (q < b.size) = false := by simp; omega
        clear hqb
        go_wp2
        go_end0
        exact ⟨.inl rfl, HE.out⟩
    · have hzn : decide (z < n) = false := by simp; omega
      have HE := Lib.hid (FEnd.of (by rw [← HZ.out]; exact K0.out) (by rw [← HZ.out]; exact KO.out) K2.out HF.out (by rw [show n - l.length = 0 by omega]; rfl) HT.out)
      clear hlt
      go_wp2
      go_end0
      exact ⟨.inl rfl, HE.out⟩

set_option maxRecDepth 100000 in
set_option maxHeartbeats 1000000 in
theorem tryF_any (g0 g1 g2 g3 : Nat) (b : ByteArray) (n : Nat) (w : World) (hb : b.size ≤ 1048576) (hn : (n : Int) ≤ 9223372036854775807)
    (h0 : w.heap[g0]? = some (.cells #[.slice none 0 0] 31 (0, 0))) (h1 : w.heap[g1]? = some (.cells #[.int .i64 (n : Int)] 3 (0, 0))) (h2 : w.heap[g2]? = some (.cells #[.int .i64 0] 3 (0, 0))) (h3 : w.heap[g3]? = some (.cells #[.string b] 9 (0, 0)))
    (n01 : g0 ≠ g1) (n02 : g0 ≠ g2) (n03 : g0 ≠ g3) (n12 : g1 ≠ g2) (n23 : g2 ≠ g3) :
    Calls Try.prog 51 #[.func (.func 76) #[] #[.pointer (some ⟨g0, 0, none⟩), .pointer (some ⟨g1, 0, none⟩), .pointer (some ⟨g2, 0, none⟩), .pointer (some ⟨g3, 0, none⟩)]] w fun e w' =>
      (∃ ok, e = .returned (.bool ok)) ∧ FEnd w g0 g2 b n w' := by
  have hmf : ∀ (fn : Fn) (first cap : Array Value) (w : World), (Instr.makeFunc fn first cap).run Try.prog w = .ok (.func fn first cap) w := fun _ _ _ _ => rfl
  have hb0 := below1 w (.cells #[.bool false] 4)
  have L0 := blk_lt h0
  have L2 := blk_lt h2
  have HC := Lib.hid (inner_any g0 g1 g2 g3 b n (w.alloc (.cells #[.bool false] 4)) hb hn ((hb0.block _ (blk_lt h0)).trans h0) ((hb0.block _ (blk_lt h1)).trans h1) ((hb0.block _ (blk_lt h2)).trans h2) ((hb0.block _ (blk_lt h3)).trans h3) n01 n02 n03 n12 n23)
  have hn' := heap_alloc_new w (.cells #[.bool false] 4)
  have HB0 := Lib.hid hb0
  have HN := Lib.hid hn'
  have HL0 := Lib.hid L0
  have HL2 := Lib.hid L2
  clear h0 h1 h2 h3 hb0 hn' L0 L2 n01 n02 n03 n12 n23
  go_enter_defers Try.func51, Try.ntmps51
  go_wp2_with fail
  refine HC.out.mono ?_
  rintro e w2 ⟨hre, A, c, e0, e1, e2, hT⟩
  have l0 := HL0.out
  have l2 := HL2.out
  have hk := (hT.2.2.2.2 w.heap.size (by simp) (by omega) (by omega)).trans HN.out
  have k0 : w2.cell? ⟨w.heap.size, 0, none⟩ = some (.bool false) := cell_of_row _ _ 0 _ 4 (0, 0) hk
  have kf : w2.frozen? ⟨w.heap.size, 0, none⟩ = false := free_row hk 0
  have hT2 : Two w w2 g0 g2 := ((Two.ofBelow HB0.out).trans hT)
  have HT := Lib.hid hT2
  have HE1 := Lib.hid (fun (W2 : World) (u : Value) (f0 : W2.heap[g0]? = some (.cells #[.slice A (frs b n 0).1.length c] 31 (0, 0))) (f1 : W2.ownsRow (w.heap.size + 1) 9 1 (.slice A (frs b n 0).1.length c) (frs b n 0).1.length (S9 (frs b n 0).1)) (f2 : W2.heap[g2]? = some (.cells #[.int .i64 ((frs b n 0).2 : Int)] 3 (0, 0))) (f3 : Two w W2 g0 g2) => (show (W2.setCell ⟨w.heap.size, 0, none⟩ u).heap[g0]? = some (.cells #[.slice A (frs b n 0).1.length c] 31 (0, 0)) ∧ (W2.setCell ⟨w.heap.size, 0, none⟩ u).ownsRow (w.heap.size + 1) 9 1 (.slice A (frs b n 0).1.length c) (frs b n 0).1.length (S9 (frs b n 0).1) ∧ (W2.setCell ⟨w.heap.size, 0, none⟩ u).heap[g2]? = some (.cells #[.int .i64 ((frs b n 0).2 : Int)] 3 (0, 0)) ∧ Two w (W2.setCell ⟨w.heap.size, 0, none⟩ u) g0 g2 from
    ⟨set_oth f0 (by show w.heap.size ≠ g0; omega) _, row_set f1 (by show w.heap.size < w.heap.size + 1; omega) _, set_oth f2 (by show w.heap.size ≠ g2; omega) _, f3.set (.inr (.inr (Nat.le_refl _))) _⟩))
  rw [World.size_alloc] at e1
  have HF := Lib.hid (fun u => HE1.out w2 u e0 e1 e2 hT2)
  have HG := Lib.hid (fun u => (show FEnd w g0 g2 b n (w2.setCell ⟨w.heap.size, 0, none⟩ u) from by
    obtain ⟨a1, a2, a3, a4⟩ := HF.out u
    exact ⟨A, c, a1, row_mono a2 (Nat.le_succ _), a3, a4⟩))
  have HE := Lib.hid (fun u u' => (show FEnd w g0 g2 b n ((w2.setCell ⟨w.heap.size, 0, none⟩ u).setCell ⟨w.heap.size, 0, none⟩ u') from by
    obtain ⟨a1, a2, a3, a4⟩ := HF.out u
    obtain ⟨b1, b2, b3, b4⟩ := HE1.out _ u' a1 a2 a3 a4
    exact ⟨A, c, b1, row_mono b2 (Nat.le_succ _), b3, b4⟩))
  clear hT hT2 hk e0 e1 e2
  rcases hre with rfl | rfl
  · go_wp2
    refine leaves_cons (f := 70) (args := #[.pointer (some ⟨w.heap.size, 0, none⟩)]) (by simp) (by simp [go_sem]) ?_
    refine (catch_idle ⟨w.heap.size, 0, none⟩ true _ ?_ ?_).mono ?_
    · simp [go_sem, k0]
    · rw [World.frozen?_setCell]; exact kf
    rintro e u' w'' ⟨rfl, rfl, rfl⟩
    simp [Leaves, settle, results, Try.results51, go_sem, k0]
    exact HE.out _ _
  · unfold bad
    go_wp2
    refine leaves_cons (f := 70) (args := #[.pointer (some ⟨w.heap.size, 0, none⟩)]) (by simp) (by simp [go_sem]) ?_
    refine (catch_panicking ⟨w.heap.size, 0, none⟩ false 9 _ [] _ k0 kf).mono ?_
    rintro e u' w'' ⟨rfl, rfl, rfl⟩
    simp [Leaves, settle, results, Try.results51, go_sem, k0]
    exact HG.out _
end Go.Proofs.Ytcjejbnogghkcaa.Dk
