/-
  The contract of the model's ReadRec.
-/
import Derived.Test.YtkhndofplebcaaaReadS
import Derived.Test.YtkhndofplebcaaaApp
namespace Go.Proofs.Ytkhndofplebcaaa
open Go.RowKit CM
set_option linter.unusedVariables false

set_option maxRecDepth 100000 in
set_option maxHeartbeats 1000000 in
theorem specRead_bad (b : ByteArray) (w : World) (hE : NoEnc b) (hO : ∀ W, Calls Try.prog 95 #[.string b] W fun e w' => e = .returned (.tuple #[.string ⟨#[]⟩, .bool false]) ∧ Below W.heap.size W w') :
    Calls Try.prog 45 #[.string b] w (ReadEnd b w) := by
  have HO := Lib.hid (hO (w.alloc zeroRec))
  have HB := Lib.hid (below1 w zeroRec)
  have KR := Lib.hid (heap_alloc_new w zeroRec)
  have HE := Lib.hid hE
  clear hO hE
  go_enter Try.func45, Try.ntmps45
  go_wp2_with fail
  refine HO.out.mono ?_
  rintro e w1 ⟨rfl, hb⟩
  have kr := (hb.block w.heap.size (by simp)).trans KR.out
  have y0 := cell_blk (i := 0) kr rfl
  have y1 := cell_blk (i := 1) kr rfl
  have y2 := cell_blk (i := 2) kr rfl
  have y3 := cell_blk (i := 3) kr rfl
  have y4 := cell_blk (i := 4) kr rfl
  have y5 := cell_blk (i := 5) kr rfl
  have y6 := cell_blk (i := 6) kr rfl
  have hfr := free_all kr
  have HB1 := Lib.hid (HB.out.trans (hb.mono HB.out.size))
  clear hb kr
  go_wp2
  have HM : ∀ W, Mid w.heap.size (w.heap.size + 1) w1 W → ReadEnd b w (.returned (.tuple #[.agg #[.int .i64 0, .int .i64 0, .int .i64 0, .int .i64 0, .slice none 0 0, .slice none 0 0, .bool false], .bool false])) W := fun W hm =>
    ⟨HB1.out.trans ((hm.below HB1.out.size)), .inr ⟨HE.out, rfl⟩⟩
  refine bodyPost_ret (v := .tuple #[.agg #[.int .i64 0, .int .i64 0, .int .i64 0, .int .i64 0, .slice none 0 0, .slice none 0 0, .bool false], .bool false]) (by simp [results, Try.results45, go_sem, *]) rfl (HM _ ?_)
  refine Mid.set ?_ (by simp) _
  refine Mid.set ?_ (by simp) _
  refine Mid.set ?_ (by simp) _
  refine Mid.set ?_ (by simp) _
  refine Mid.set ?_ (by simp) _
  refine Mid.set ?_ (by simp) _
  refine Mid.set ?_ (by simp) _
  exact Mid.refl _ _ _

theorem RS.other {w : World} {g : Nat} {s : ByteArray} {σ : Option Nat} (h : RS w g s σ) {p : Addr} (hp : p.block ≠ g) (u : Value) : RS (w.setCell p u) g s σ := by
  have e : (w.setCell p u).heap[g]? = w.heap[g]? := Below.heap_setCell _ _ _ _ (fun e => hp e.symm)
  cases σ with
  | none => obtain ⟨q, hq⟩ := h; exact ⟨q, e.trans hq⟩
  | some q => exact ⟨e.trans h.1, h.2⟩
theorem RS.same {w w' : World} {g : Nat} {s : ByteArray} {σ : Option Nat} (h : RS w g s σ) (e : w'.heap[g]? = w.heap[g]?) : RS w' g s σ := by
  cases σ with
  | none => obtain ⟨q, hq⟩ := h; exact ⟨q, e.trans hq⟩
  | some q => exact ⟨e.trans h.1, h.2⟩
theorem RS.lt {w : World} {g : Nat} {s : ByteArray} {σ : Option Nat} (h : RS w g s σ) : g < w.heap.size := by
  cases σ with
  | none => obtain ⟨q, hq⟩ := h; exact hq.lt
  | some q => exact h.1.lt
theorem grown_setnew {w w1 : World} {row : Option Nat} (h : w.grownBy w1 row) {p : Addr} (hp : w.heap.size ≤ p.block) (u : Value) : w.grownBy (w1.setCell p u) row :=
  ⟨h.os, h.tape, h.output, by have := h.size; simp [World.setCell]; omega, fun k hk hr => (Below.heap_setCell _ _ _ _ (by intro e; omega)).trans (h.block k hk hr)⟩
theorem rdVs_none (s : ByteArray) (j : Nat) : (rdVs s none j).2 = none := by
  induction j with
  | zero => rfl
  | succ j ih => show (rdV s (rdVs s none j).2).2 = none; rw [ih]; rfl
/-- All blocks but two are kept. -/
def Kept (w w' : World) (g x : Nat) : Prop := w'.os = w.os ∧ w'.tape = w.tape ∧ w'.output = w.output ∧ w.heap.size ≤ w'.heap.size ∧ ∀ k, k < w.heap.size → k ≠ g → k ≠ x → w'.heap[k]? = w.heap[k]?
theorem wv_step {s : ByteArray} {σ' : Option Nat} {W9 wr W16 w3 : World} {g x : Nat} {v v' : Value} {cs : Array Value} {tx : TypeId} {o : Obj} {sz n : Nat} {t : TypeId} {xs : List Value}
    (hK : Kept W9 wr g x) (hg16 : wr.grownBy W16 (some g)) (hP : RS W16 g s σ') (hgrow : (W16.alloc o).grownBy w3 v.ownBlock) (hv : ∀ z, v.ownBlock = some z → W9.heap.size ≤ z) (hx : x < W9.heap.size) (hg : g < W9.heap.size) (hxg : x ≠ g) (k12 : w3.heap[x]? = some (.cells cs tx (0, 0))) (i : Nat) (hown : w3.ownsRow W9.heap.size t sz v' n xs) :
    (w3.setCell ⟨x, i, none⟩ v').heap[x]? = some (.cells (cs.setIfInBounds i v') tx (0, 0)) ∧ (w3.setCell ⟨x, i, none⟩ v').ownsRow W9.heap.size t sz v' n xs ∧ RS (w3.setCell ⟨x, i, none⟩ v') g s σ' ∧ Kept W9 (w3.setCell ⟨x, i, none⟩ v') g x := by
  have hs1 := hK.2.2.2.1
  have hs2 := hg16.size
  have hs3 : W16.heap.size ≤ w3.heap.size := by have := hgrow.size; simp at this; omega
  have key : ∀ k, k < W9.heap.size → k ≠ x → (w3.setCell ⟨x, i, none⟩ v').heap[k]? = W16.heap[k]? := fun k hk hne =>
    (Below.heap_setCell _ _ _ _ (by exact hne)).trans ((hgrow.block k (by simp; omega) (fun e => by have := hv k e.symm; omega)).trans (Below.heap_alloc _ _ _ (by omega)))
  refine ⟨set_blk k12 v', ?_, hP.same (key g hg (fun e => hxg e.symm)), ?_⟩
  · refine hown.kept (row := some x) (C1.grown_set (C1.grown_refl _ _) rfl _) ?_
    cases h : v'.ownBlock with
    | none => exact .inl rfl
    | some z => exact .inr (fun e => by have := (hown.lt z h).1; injection e with e; omega)
  · exact ⟨hgrow.os.trans (hg16.os.trans hK.1), hgrow.tape.trans (hg16.tape.trans hK.2.1), hgrow.output.trans (hg16.output.trans hK.2.2.1), by simp [World.setCell]; omega, fun k hk h1 h2 => (key k hk h2).trans ((hg16.block k (by omega) (fun e => h1 (by injection e))).trans (hK.2.2.2.2 k hk h1 h2))⟩
theorem below_set {B : Nat} {w w1 : World} (h : Below B w w1) {p : Addr} (hp : B ≤ p.block) (u : Value) : Below B w (w1.setCell p u) :=
  h.trans ⟨rfl, rfl, rfl, by simp [World.setCell], fun k hk => Below.heap_setCell _ _ _ _ (by intro e; omega)⟩
theorem Kept.below {B g x : Nat} {w w' : World} (h : Kept w w' g x) (hg : B ≤ g) (hx : B ≤ x) (hw : B ≤ w.heap.size) : Below B w w' :=
  ⟨h.1, h.2.1, h.2.2.1, h.2.2.2.1, fun k hk => h.2.2.2.2 k (by omega) (by omega) (by omega)⟩
theorem Kept.own {w w' : World} {g x lo hi sz c : Nat} {t : TypeId} {A : Option Addr} {L : List (List Value)} (hk : Kept w w' g x) (h : Own w lo hi t sz A c L) (hg : g < lo) (hx : x < lo) : Own w' lo hi t sz A c L := by
  rcases h with h | ⟨b, cur, e1, e2, e3, hh, e4⟩
  · exact .inl h
  · exact .inr ⟨b, cur, e1, e2, e3, (hk.2.2.2.2 b (lt_blk hh) (by omega) (by omega)).trans hh, e4⟩
theorem venc_reads {k t tm ld : Int} {y : Bool} {rs : List ByteArray} {ws : List (ByteArray × ByteArray × Bool)} {b s : ByteArray} (hs : s = bodyOf b) (h : Enc k t tm ld y rs ws b) :
    k = ((r1 s).1 : Int) ∧ t = ((r2 s).1 : Int) ∧ tm = ((r3 s).1 : Int) ∧ ld = ((r4 s).1 : Int) ∧ y = (((o5 s).1 : Int) == 1) ∧ rs = (o6 s).1 ∧ ws = (rdVs s (o7 s).2 (o7 s).1).1 ∧ ∀ j, j ≤ (o7 s).1 → (rdVs s (o7 s).2 j).2 ≠ none := by
  subst hs
  obtain ⟨kn, tn, tmn, ldn, rfl, rfl, rfl, rfl, hok, hd, _⟩ := enc_parts h
  obtain ⟨a1, a2, a3, a4, a5, a6, a7, a8, a9⟩ := vreads_ok hd hok
  rw [a1, a2, a3, a4, a5, a6, a7]
  exact ⟨rfl, rfl, rfl, rfl, rfl, rfl, by rw [(a9 ws.length (Nat.le_refl _)).1, List.take_of_length_le (Nat.le_refl _)], fun j hj => (a9 j hj).2⟩
/-- What the loop over the writes keeps. -/
def VInv (w6 : World) (g b m : Nat) (s : ByteArray) (σ0 : Option Nat) (k t tm ld : Nat) (A : Option Addr) (n c : Nat) (y : Bool) (j : Nat) (wr : World) : Prop :=
  ∃ v, wr.heap[b]? = some (.cells #[.int .i64 (k : Int), .int .i64 (t : Int), .int .i64 (tm : Int), .int .i64 (ld : Int), .slice A n c, v, .bool y] 33 (0, 0)) ∧ wr.ownsRow m 121 3 v j (((rdVs s σ0 j).1.map wrCs).flatten) ∧ RS wr g s (rdVs s σ0 j).2 ∧ Kept w6 wr g b

set_option maxRecDepth 100000 in
set_option maxHeartbeats 4000000 in
theorem specRead_in (b : ByteArray) (w : World) (h3 : 3 ≤ b.size) (h6 : b.size ≤ 6000) (hok : C1.OkSeal b (b.size - 3)) :
    Calls Try.prog 45 #[.string b] w (ReadEnd b w) := by
  obtain ⟨j0, hj, hy0, hy1, hy2⟩ := info_parts infoWrite
  have HO := Lib.hid (C1.specOpen_yes b (w.alloc zeroRec) (b.size - 3) (by omega) h6 hok)
  obtain ⟨s, hs⟩ : ∃ s, s = bodyOf b := ⟨_, rfl⟩
  have hsz : s.size ≤ 6000 := by
    rw [hs]; unfold bodyOf
    show (b.data.toList.take (b.size - 3)).toArray.size ≤ 6000
    simp; omega
  rw [show (⟨(b.data.toList.take (b.size - 3)).toArray⟩ : ByteArray) = s from hs.symm] at HO
  have HS := Lib.hid hs
  have HB := Lib.hid (below1 w zeroRec)
  have KR := Lib.hid (heap_alloc_new w zeroRec)
  have hs0 : (w.alloc zeroRec).heap.size = w.heap.size + 1 := by simp
  clear hs
  go_enter Try.func45, Try.ntmps45
  go_wp2_with fail
  refine HO.out.mono ?_
  rintro e w1 ⟨rfl, hb1⟩
  have kr1 := (hb1.block w.heap.size (by simp)).trans KR.out
  have HB1 := Lib.hid (HB.out.trans (hb1.mono HB.out.size))
  have KR1 := Lib.hid kr1
  have hs1 : w.heap.size < w1.heap.size := lt_blk kr1
  clear hb1 kr1
  obtain ⟨W2, hW2⟩ : ∃ W2, W2 = w1.alloc (.cells #[.string s, .int .i64 0, .bool false] 127) := ⟨_, rfl⟩
  have HP2 := Lib.hid (show RS W2 w1.heap.size s (some 0) from ⟨by rw [hW2]; exact heap_alloc_new _ _, by omega⟩)
  have hb2 : Below w1.heap.size w1 W2 := by rw [hW2]; exact below1 _ _
  have hs2 : W2.heap.size = w1.heap.size + 1 := by rw [hW2]; simp
  have HB2 := Lib.hid hb2
  have HW2 := Lib.hid hW2
  clear hb2 hW2
  obtain ⟨k, hk⟩ : ∃ k, k = (r1 s).1 := ⟨_, rfl⟩
  obtain ⟨t, ht⟩ : ∃ t, t = (r2 s).1 := ⟨_, rfl⟩
  obtain ⟨tm, htm⟩ : ∃ t, t = (r3 s).1 := ⟨_, rfl⟩
  obtain ⟨ld, hld⟩ : ∃ t, t = (r4 s).1 := ⟨_, rfl⟩
  obtain ⟨y, hy⟩ : ∃ y, y = (((o5 s).1 : Int) == 1) := ⟨_, rfl⟩
  have Hk := Lib.hid hk
  have Ht := Lib.hid ht
  have Htm := Lib.hid htm
  have Hld := Lib.hid hld
  have Hy := Lib.hid hy
  clear hk ht htm hld hy
  go_wp2_with fail
  rw [← HW2.out]
  refine (RS.num HP2.out hsz).mono ?_
  rintro e w3 ⟨rfl, hG, hP⟩
  have HP3 := Lib.hid (show RS w3 w1.heap.size s (r1 s).2 from hP)
  have HG3 := Lib.hid (hG)
  rw [show (rdN s (some 0)).1 = k from Hk.out.symm]
  clear hG hP
  go_wp2_with fail
  refine (RS.num HP3.out hsz).mono ?_
  rintro e w4 ⟨rfl, hG, hP⟩
  have HP4 := Lib.hid (show RS w4 w1.heap.size s (r2 s).2 from hP)
  have HG4 := Lib.hid (C1.grown_trans HG3.out hG)
  rw [show (rdN s (r1 s).2).1 = t from Ht.out.symm]
  clear hG hP
  go_wp2_with fail
  refine (RS.num HP4.out hsz).mono ?_
  rintro e w5 ⟨rfl, hG, hP⟩
  have HP5 := Lib.hid (show RS w5 w1.heap.size s (r3 s).2 from hP)
  have HG5 := Lib.hid (C1.grown_trans HG4.out hG)
  rw [show (rdN s (r2 s).2).1 = tm from Htm.out.symm]
  clear hG hP
  go_wp2_with fail
  refine (RS.num HP5.out hsz).mono ?_
  rintro e w6 ⟨rfl, hG, hP⟩
  have HP6 := Lib.hid (show RS w6 w1.heap.size s (r4 s).2 from hP)
  have HG6 := Lib.hid (C1.grown_trans HG5.out hG)
  rw [show (rdN s (r3 s).2).1 = ld from Hld.out.symm]
  clear hG hP
  obtain ⟨W7, hW7⟩ : ∃ W7, W7 = w6.alloc (.cells #[.int .i64 (k : Int), .int .i64 (t : Int), .int .i64 (tm : Int), .int .i64 (ld : Int), .slice none 0 0, .slice none 0 0, .bool false] 33) := ⟨_, rfl⟩
  have hb7 : Below w6.heap.size w6 W7 := by rw [hW7]; exact below1 _ _
  have hs7 : W7.heap.size = w6.heap.size + 1 := by rw [hW7]; simp
  have kx7 : W7.heap[w6.heap.size]? = some (.cells #[.int .i64 (k : Int), .int .i64 (t : Int), .int .i64 (tm : Int), .int .i64 (ld : Int), .slice none 0 0, .slice none 0 0, .bool false] 33 (0, 0)) := by rw [hW7]; exact heap_alloc_new _ _
  have hg6 : w1.heap.size < w6.heap.size := HP6.out.lt
  have HP7 := Lib.hid (HP6.out.same (hb7.block _ hg6))
  have HB6 := Lib.hid (show w1.heap.size ≤ w6.heap.size by omega)
  have KX7 := Lib.hid kx7
  have HW7 := Lib.hid hW7
  have HB7 := Lib.hid hb7
  clear hb7 hW7 kx7
  go_wp2_with fail
  rw [← HW7.out]
  refine (RS.one HP7.out hsz).mono ?_
  rintro e w8 ⟨rfl, hG, hP⟩
  have hbg : w6.heap.size ≠ w1.heap.size := by omega
  have kx := blk_grown KX7.out hG hbg
  have x6 := cell_blk (i := 6) kx rfl
  have f8 := free_all kx
  have hs8 : W7.heap.size ≤ w8.heap.size := hG.size
  obtain ⟨W8, hW8⟩ : ∃ W8, W8 = w8.setCell ⟨w6.heap.size, 6, none⟩ (.bool y) := ⟨_, rfl⟩
  have hk8 : W8.heap[w6.heap.size]? = some (.cells #[.int .i64 (k : Int), .int .i64 (t : Int), .int .i64 (tm : Int), .int .i64 (ld : Int), .slice none 0 0, .slice none 0 0, .bool y] 33 (0, 0)) := by rw [hW8]; exact set_blk kx _
  have HK8 := Lib.hid hk8
  have HP8 := Lib.hid (show RS W8 w1.heap.size s (o5 s).2 by rw [hW8]; exact RS.other hP hbg _)
  have hG8 : w6.grownBy w8 (some w1.heap.size) := C1.grown_trans (C1.grown_below (C1.grown_refl _ _) HB7.out) hG
  have HG8 := Lib.hid hG8
  have HW8 := Lib.hid hW8
  have hsW8 : W8.heap.size = w8.heap.size := by rw [hW8]; simp [World.setCell]
  rw [show (rdO s (r4 s).2) = o5 s from rfl]
  clear kx hG hP hW8 hk8 hG8
  go_wp2_with fail
  rw [show (((o5 s).1 : Int) == 1) = y from Hy.out.symm, ← HW8.out]
  refine (RS.texts2 HP8.out hsz).mono ?_
  rintro e w9 ⟨A, n, c, rfl, hG, hP, hown⟩
  have kx := blk_grown HK8.out hG hbg
  have x4 := cell_blk (i := 4) kx rfl
  have f9 := free_all kx
  have hs9 : W8.heap.size ≤ w9.heap.size := hG.size
  obtain ⟨W9, hW9⟩ : ∃ W9, W9 = w9.setCell ⟨w6.heap.size, 4, none⟩ (.slice A n c) := ⟨_, rfl⟩
  have HK9 := Lib.hid (show W9.heap[w6.heap.size]? = some (.cells #[.int .i64 (k : Int), .int .i64 (t : Int), .int .i64 (tm : Int), .int .i64 (ld : Int), .slice A n c, .slice none 0 0, .bool y] 33 (0, 0)) by rw [hW9]; exact set_blk kx _)
  have HP9 := Lib.hid (show RS W9 w1.heap.size s (o6 s).2 by rw [hW9]; exact RS.other hP hbg _)
  have HG89 := Lib.hid hG
  have HW9 := Lib.hid hW9
  have hsW9 : W9.heap.size = w9.heap.size := by rw [hW9]; simp [World.setCell]
  have HOW9 := Lib.hid (show (o6 s).2 = none ∨ (n = (o6 s).1.length ∧ n ≤ 40 ∧ OwnS W9 W8.heap.size W9.heap.size A c (o6 s).1) from hown.imp id (fun ⟨h1, h2, h3⟩ => ⟨h1, h2, by
    have h4 : OwnS w9 W8.heap.size w9.heap.size A c (o6 s).1 := h3
    rw [hsW9, hW9]
    exact Own.other h4 (fun x hx => by
      rcases h4 with ⟨_, h5, _⟩ | ⟨g5, cur5, h5, h6, _⟩
      · rw [h5] at hx; cases hx
      · rw [h5] at hx; injection hx with hx; subst hx; simp only; omega) _⟩))
  have HBK := Lib.hid (show Below (w.heap.size + 1) w1 W9 by
    have a1 : Below (w.heap.size + 1) w1 W2 := HB2.out.mono (by omega)
    have a2 := a1.trans (C1.below_of_grown (B := w.heap.size + 1) HG6.out (by omega) (by omega))
    have a3 := a2.trans (C1.below_of_grown (B := w.heap.size + 1) HG8.out (by omega) (by omega))
    have a4 : Below (w.heap.size + 1) w1 W8 := by rw [HW8.out]; exact below_set a3 (by simp only; omega) _
    have a5 := a4.trans (C1.below_of_grown (B := w.heap.size + 1) hG (by omega) (by omega))
    rw [hW9]; exact below_set a5 (by simp only; omega) _)
  clear kx hG hP hW9 hown
  go_wp2_with fail
  rw [← HW9.out]
  refine (RS.num HP9.out hsz).mono ?_
  rintro e w10 ⟨rfl, hG, hP⟩
  rw [show (rdN s (o6 s).2).1 = (o7 s).1 from rfl]
  have hs10 : W9.heap.size ≤ w10.heap.size := hG.size
  have hin0 : RIn s (some 0) := fun q hq => by injection hq with hq; omega
  have i1 : RIn s (r1 s).2 := (rdN_in hin0).1
  have i2 : RIn s (r2 s).2 := (rdN_in i1).1
  have i3 : RIn s (r3 s).2 := (rdN_in i2).1
  have i4 : RIn s (r4 s).2 := (rdN_in i3).1
  have i5 : RIn s (o5 s).2 := (rdO_in i4).1
  have i6 := rdTs_in i5
  have i7 : RIn s (o7 s).2 := (rdN_in i6.1).1
  have hn9 : (o7 s).1 ≤ 1000000000 := (rdN_in i6.1).2.1
  have hsr60 : ∀ x ∈ (o6 s).1, x.size ≤ 60 := i6.2
  have HI8 := Lib.hid (fun j => rdVs_in i7 j)
  have HR0 := Lib.hid (show VInv W9 w1.heap.size w6.heap.size W9.heap.size s (o7 s).2 k t tm ld A n c y 0 w10 from ⟨_, blk_grown HK9.out hG hbg, World.ownsRow_nil _ _ _ _, hP, hG.os, hG.tape, hG.output, hG.size, fun k hk h1 h2 => hG.block k hk (fun e => h1 (by injection e))⟩)
  clear hG hP hin0 i1 i2 i3 i4 i5 i6 i7
  obtain ⟨N, hN⟩ : ∃ N, N = (o7 s).1 := ⟨_, rfl⟩
  have HN := Lib.hid hN
  rw [← hN]
  rw [← hN] at hn9
  clear hN
  go_wp2
  go_loopw [8] (fun i wr => ∃ j m : Nat, j + m = N ∧ i = .int .i64 (m : Int) ∧ VInv W9 w1.heap.size w6.heap.size W9.heap.size s (o7 s).2 k t tm ld A n c y j wr) (fun i _ => (intOf i).toNat)
  case atStart => exact ⟨0, N, by omega, rfl, HR0.out⟩
  case round =>
    rename World => wr
    clear HR0
    obtain ⟨j, m, hjm, rfl, v, hkb, hown, hP, hG⟩ := hrel
    have hgw : w1.heap.size < W9.heap.size := by omega
    have hwr : W9.heap.size ≤ wr.heap.size := hG.2.2.2.1
    have hm9 : m ≤ 1000000000 := by omega
    cases hσ : (rdVs s (o7 s).2 j).2 with
    | some q =>
      have HQ := Lib.hid hσ
      have hj6 : j ≤ 6000 := by
        have a1 := (HI8.out j).2.2 q hσ
        have a2 := (HI8.out j).1 q hσ
        omega
      rw [hσ] at hP
      have d2 := hP.1.c2
      by_cases hm0 : 0 < m
      · have HKB := Lib.hid hkb
        have HP11 := Lib.hid hP
        have HOW := Lib.hid hown
        have HG := Lib.hid hG
        obtain ⟨fl, hfl⟩ : ∃ fl, fl = ((rdVs s (o7 s).2 j).1.map wrCs).flatten := ⟨_, rfl⟩
        rw [← hfl] at HOW
        have HNX := Lib.hid (show ∀ W v', W.heap[w6.heap.size]? = some (.cells #[.int .i64 (k : Int), .int .i64 (t : Int), .int .i64 (tm : Int), .int .i64 (ld : Int), .slice A n c, v', .bool y] 33 (0, 0)) → W.ownsRow W9.heap.size 121 3 v' (j + 1) (fl ++ wrCs (rdV s (some q)).1) → RS W w1.heap.size s (rdV s (some q)).2 → Kept W9 W w1.heap.size w6.heap.size → VInv W9 w1.heap.size w6.heap.size W9.heap.size s (o7 s).2 k t tm ld A n c y (j + 1) W from fun W v' h1 h2 h3 h4 => ⟨v', h1, by
            rw [hfl] at h2
            unfold rdVs
            rw [List.map_append, List.flatten_append, HQ.out]
            simpa using h2, by unfold rdVs; rw [HQ.out]; exact h3, h4⟩)
        clear hkb hown hP hG hσ hfl
        go_wp2_with fail
        refine (RS.text HP11.out hsz).mono ?_
        rintro e w11 ⟨rfl, hG1, hP1⟩
        obtain ⟨key, hkey⟩ : ∃ x, x = (rdT s (some q)).1 := ⟨_, rfl⟩
        obtain ⟨σ1, hσ1⟩ : ∃ x, x = (rdT s (some q)).2 := ⟨_, rfl⟩
        rw [← hkey]
        rw [← hσ1] at hP1
        have HKE := Lib.hid hkey
        have HS1 := Lib.hid hσ1
        obtain ⟨W12, hW12⟩ : ∃ W12, W12 = w11.alloc (.cells #[.string key, .string ⟨#[]⟩, .bool false] 121) := ⟨_, rfl⟩
        have hs11 : wr.heap.size ≤ w11.heap.size := hG1.size
        have hb12 : Below w11.heap.size w11 W12 := by rw [hW12]; exact below1 _ _
        have hs12 : W12.heap.size = w11.heap.size + 1 := by rw [hW12]; simp
        have HG12 := Lib.hid (C1.grown_below hG1 hb12)
        have HP12 := Lib.hid (hP1.same (hb12.block _ hP1.lt))
        have HZ12 := Lib.hid (show W12.heap[w11.heap.size]? = some (.cells #[.string key, .string ⟨#[]⟩, .bool false] 121 (0, 0)) by rw [hW12]; exact heap_alloc_new _ _)
        have HW12 := Lib.hid hW12
        clear hG1 hP1 hb12 hW12 d2 hkey hσ1
        go_wp2_with fail
        rw [← HW12.out]
        refine (RS.one HP12.out hsz).mono ?_
        rintro e w13 ⟨rfl, hG1, hP1⟩
        have hzg : w11.heap.size ≠ w1.heap.size := by omega
        have hz := blk_grown HZ12.out hG1 hzg
        have z2 := cell_blk (i := 2) hz rfl
        have f13 := free_all hz
        have hs13 : W12.heap.size ≤ w13.heap.size := hG1.size
        obtain ⟨on, hon⟩ : ∃ x, x = (rdO s σ1).1 := ⟨_, rfl⟩
        obtain ⟨fg, hfg⟩ : ∃ x, x = ((on : Int) == 1) := ⟨_, rfl⟩
        obtain ⟨σ2, hσ2⟩ : ∃ x, x = (rdO s σ1).2 := ⟨_, rfl⟩
        rw [← hon]
        rw [← hσ2] at hP1
        obtain ⟨W14, hW14⟩ : ∃ W14, W14 = w13.setCell ⟨w11.heap.size, 2, none⟩ (.bool fg) := ⟨_, rfl⟩
        have hs14 : W14.heap.size = w13.heap.size := by rw [hW14]; simp [World.setCell]
        have HZ14 := Lib.hid (show W14.heap[w11.heap.size]? = some (.cells #[.string key, .string ⟨#[]⟩, .bool fg] 121 (0, 0)) by rw [hW14]; exact set_blk hz _)
        have HP14 := Lib.hid (show RS W14 w1.heap.size s σ2 by rw [hW14]; exact RS.other hP1 hzg _)
        have HG14 := Lib.hid (show wr.grownBy W14 (some w1.heap.size) by rw [hW14]; exact grown_setnew (C1.grown_trans HG12.out hG1) (by simp only; omega) _)
        have HW14 := Lib.hid hW14
        have HON := Lib.hid hon
        have HFG := Lib.hid hfg
        have HS2 := Lib.hid hσ2
        clear hG1 hP1 hz hW14 hon hfg hσ2
        go_wp2_with fail
        rw [← HFG.out, ← HW14.out]
        refine (RS.text HP14.out hsz).mono ?_
        rintro e w15 ⟨rfl, hG1, hP1⟩
        have hz := blk_grown HZ14.out hG1 hzg
        have z1 := cell_blk (i := 1) hz rfl
        have f15 := free_all hz
        have hs15 : W14.heap.size ≤ w15.heap.size := hG1.size
        obtain ⟨vl, hvl⟩ : ∃ x, x = (rdT s σ2).1 := ⟨_, rfl⟩
        rw [← hvl]
        have HVL := Lib.hid hvl
        obtain ⟨W16, hW16⟩ : ∃ W16, W16 = w15.setCell ⟨w11.heap.size, 1, none⟩ (.string vl) := ⟨_, rfl⟩
        have hs16 : W16.heap.size = w15.heap.size := by rw [hW16]; simp [World.setCell]
        have hz16 : W16.heap[w11.heap.size]? = some (.cells #[.string key, .string vl, .bool fg] 121 (0, 0)) := by rw [hW16]; exact set_blk hz _
        have hp16 : RS W16 w1.heap.size s (rdT s σ2).2 := by rw [hW16]; exact RS.other hP1 hzg _
        have hg16 : wr.grownBy W16 (some w1.heap.size) := by rw [hW16]; exact grown_setnew (C1.grown_trans HG14.out hG1) (by simp only; omega) _
        have u0 := cell_blk (i := 0) hz16 rfl
        have u1 := cell_blk (i := 1) hz16 rfl
        have u2 := cell_blk (i := 2) hz16 rfl
        have hk16 := blk_grown HKB.out hg16 hbg
        have u5 := cell_blk (i := 5) hk16 rfl
        have hown16 := row_grown HOW.out hg16 (by omega)
        rw [hW16] at u0 u1 u2 u5
        have HW16 := Lib.hid hW16
        have HP16 := Lib.hid hp16
        have HG16 := Lib.hid hg16
        have HK16 := Lib.hid hk16
        have HOW16 := Lib.hid hown16
        have hown17 : (w15.setCell ⟨w11.heap.size, 1, none⟩ (.string vl)).ownsRow W9.heap.size 121 3 v j fl := by rw [← HW16.out]; exact hown16
        have hx17 := hk16
        rw [HW16.out] at hx17
        have hsz17 : (w15.setCell ⟨w11.heap.size, 1, none⟩ (.string vl)).heap.size = w15.heap.size := by simp [World.setCell]
        have hx18 : w6.heap.size < W9.heap.size := by omega
        clear hG1 hP1 hz hW16 hvl hz16 hp16 hg16 hk16 hown16
        have hn18 : ∀ o : Obj, ((w15.setCell ⟨w11.heap.size, 1, none⟩ (.string vl)).alloc o).heap[w15.heap.size]? = some o := fun o => by rw [← hsz17]; exact heap_alloc_new _ _
        go_wp2_with (at_builtin; refine wpList_app rfl (.tmp 61) (.tmp 63) 31 rfl W9.heap.size 121 j0 _ 3 40 Try.underlying31 hj hy0 hy1 hy2 rfl (by decide) _ j fl rfl (hown17.alloc _) (some ⟨_, 0, none⟩) 1 1 [.string key, .string vl, .bool fg] rfl rfl (fun _ => ⟨_, rfl, World.news_of_block (fr := (0, 0)) (hn18 _)⟩) (by simp [Value.oneCell']) (by unfold maxLen; omega) (by omega) (by simp [World.setCell]; omega) ?_; intro v3 w3 hown3 hg3 hat3; obtain ⟨A5, a5, c5, rfl⟩ := C1.slice_own hown3; have hk3 : w3.heap[w6.heap.size]? = _ := (hg3.block w6.heap.size (by simp [World.setCell]; omega) (fun e => by have := (hown17.lt _ e.symm).1; omega)).trans ((Below.heap_alloc _ _ _ (by rw [hsz17]; omega)).trans hx17); have x53 := cell_blk (i := 5) hk3 rfl; have fr3 := free_all hk3)
        have hgrow3 : (W16.alloc (.cells #[.string key, .string vl, .bool fg] 121)).grownBy w3 v.ownBlock := by rw [HW16.out]; exact hg3
        obtain ⟨h1, h2, h3, h4⟩ := wv_step HG.out HG16.out HP16.out hgrow3 (fun z e => (HOW16.out.lt z e).1) hx18 hgw hbg hk3 5 hown3
        have hrv : (rdV s (some q)) = ((key, vl, fg), (rdT s σ2).2) := by
          unfold rdV
          rw [← HS1.out, ← HKE.out, ← HS2.out, ← HVL.out, ← HON.out, ← HFG.out]
        have HNX' := Lib.hid (HNX.out _ _ h1 (by rw [hrv]; exact h2) (by rw [hrv]; exact h3) h4)
        clear h1 h2 h3 h4 hgrow3 hg3 hown3 hk3
        go_roundw
        case rel => exact ⟨j + 1, m - 1, by omega, by go_num, HNX'.out⟩
        case measure => simp [intOf]; omega
      · have hm00 : m = 0 := by omega
        subst hm00
        have hjN : j = N := by omega
        subst hjN
        have hbk := HBK.out.trans (hG.below (B := w.heap.size + 1) (by omega) (by omega) (by omega))
        have kr := (hbk.block w.heap.size (by omega)).trans KR1.out
        have HBN0 := Lib.hid (HB1.out.trans (hbk.mono (by omega)))
        have ht6 : (o6 s).2 ≠ none := fun e => by
          have e7 : (o7 s).2 = none := by show (rdN s (o6 s).2).2 = none; rw [e]; rfl
          rw [e7, rdVs_none] at hσ
          cases hσ
        obtain ⟨hn, hn40, hO⟩ := HOW9.out.resolve_left ht6
        have hOr : OwnS wr W8.heap.size W9.heap.size A c (o6 s).1 := hG.own hO (by omega) (by omega)
        obtain ⟨A', c', rfl, hwl, how⟩ := Own.ofRow (hi := wr.heap.size) hown (wrCs_len _) (by decide) (fun k hk => (hown.lt k hk).2)
        rw [List.length_map] at hwl hkb
        rw [hwl] at hkb
        have hUN : ∀ (k' t' tm' ld' : Int) (y' : Bool) (rs' : List ByteArray) (ws' : List (ByteArray × ByteArray × Bool)), Enc k' t' tm' ld' y' rs' ws' b → Enc k t tm ld y (o6 s).1 (rdVs s (o7 s).2 j).1 b := fun k' t' tm' ld' y' rs' ws' he => by
          obtain ⟨h1, h2, h3, h4, h5, h6, h7, _⟩ := venc_reads HS.out he
          subst h1 h2 h3 h4 h5 h6 h7
          rw [← Hk.out, ← Ht.out, ← Htm.out, ← Hld.out, ← Hy.out, ← HN.out] at he
          exact he
        have hsr : SSmall (o6 s).1 := ⟨by omega, fun x hx => by have := hsr60 x hx; omega⟩
        have hsw : WSmall (rdVs s (o7 s).2 j).1 := ⟨by omega, fun x hx => by have := (HI8.out j).2.1 x hx; omega⟩
        obtain ⟨rs, hrs⟩ : ∃ l, l = (o6 s).1 := ⟨_, rfl⟩
        obtain ⟨ws, hws⟩ : ∃ l, l = (rdVs s (o7 s).2 j).1 := ⟨_, rfl⟩
        have how' : OwnW wr W9.heap.size wr.heap.size A' c' (rdVs s (o7 s).2 j).1 := how
        rw [← hrs] at hn hOr hsr hUN
        rw [← hws] at hwl how' hsw hUN
        have HLG := Lib.hid (l4Good_any (k : Int) (t : Int) (tm : Int) (ld : Int) y A A' n j c c' rs ws wr.heap.size wr hn.symm hwl (hOr.strs.mono hwr) how'.writes (Nat.le_refl _) hsr hsw)
        have HUN := Lib.hid hUN
        have HRL := Lib.hid hn.symm
        have HWL := Lib.hid hwl
        have HO20 := Lib.hid hOr
        have HW20 := Lib.hid how'
        have KR20 := Lib.hid kr
        have KX20 := Lib.hid hkb
        have hwx : w6.heap.size < wr.heap.size := by omega
        have hwr0 : w.heap.size < wr.heap.size := by omega
        have x0 := cell_blk (i := 0) hkb rfl
        have x1 := cell_blk (i := 1) hkb rfl
        have x2 := cell_blk (i := 2) hkb rfl
        have x3 := cell_blk (i := 3) hkb rfl
        have x4 := cell_blk (i := 4) hkb rfl
        have x5 := cell_blk (i := 5) hkb rfl
        have x6 := cell_blk (i := 6) hkb rfl
        clear hkb hown hbk kr hσ hG hO hOr how how' hn hwl hUN hrs hws ht6 hP
        cases hv : recB (k : Int) (t : Int) (tm : Int) (ld : Int) y rs ws with
        | false =>
          have HNE := Lib.hid (show NoEnc b from fun k' t' tm' ld' y' rs' ws' he => by
            have := (HUN.out _ _ _ _ _ _ _ he).1
            rw [hv] at this; cases this)
          rw [hv] at HLG
          clear hv
          go_wp2_with fail
          refine HLG.out.mono ?_
          rintro e w20 ⟨rfl, hb20⟩
          have kr := (hb20.block w.heap.size hwr0).trans KR20.out
          have y0 := cell_blk (i := 0) kr rfl
          have y1 := cell_blk (i := 1) kr rfl
          have y2 := cell_blk (i := 2) kr rfl
          have y3 := cell_blk (i := 3) kr rfl
          have y4 := cell_blk (i := 4) kr rfl
          have y5 := cell_blk (i := 5) kr rfl
          have y6 := cell_blk (i := 6) kr rfl
          have hfr := free_all kr
          have HBN := Lib.hid (HBN0.out.trans (hb20.mono HBN0.out.size))
          clear hb20 kr
          go_wp2
          have HM : ∀ W, Mid w.heap.size (w.heap.size + 1) w20 W → ReadEnd b w (.returned (.tuple #[.agg #[.int .i64 0, .int .i64 0, .int .i64 0, .int .i64 0, .slice none 0 0, .slice none 0 0, .bool false], .bool false])) W := fun W hm =>
            ⟨HBN.out.trans ((hm.below HBN.out.size)), .inr ⟨HNE.out, rfl⟩⟩
          refine bodyPost_ret (v := .tuple #[.agg #[.int .i64 0, .int .i64 0, .int .i64 0, .int .i64 0, .slice none 0 0, .slice none 0 0, .bool false], .bool false]) (by simp [results, Try.results45, go_sem, *]) rfl (HM _ ?_)
          refine Mid.set ?_ (by simp) _
          refine Mid.set ?_ (by simp) _
          refine Mid.set ?_ (by simp) _
          refine Mid.set ?_ (by simp) _
          refine Mid.set ?_ (by simp) _
          refine Mid.set ?_ (by simp) _
          refine Mid.set ?_ (by simp) _
          exact Mid.refl _ _ _
        | true =>
          have hok := rec_ok hv
          obtain ⟨X, hX⟩ : ∃ X : ByteArray, X = ⟨(C1.sealed (recBy k t tm ld y rs ws)).toArray⟩ := ⟨_, rfl⟩
          have HXE := Lib.hid (show X = b → Enc k t tm ld y rs ws b from fun h => ⟨hv, by rw [← h, hX]; rfl⟩)
          have HXN := Lib.hid (show X ≠ b → NoEnc b from fun h k' t' tm' ld' y' rs' ws' he => h (by rw [hX, (HUN.out _ _ _ _ _ _ _ he).2]; rfl))
          have HLB := Lib.hid (fun W (h : Below wr.heap.size wr W) => l4Bytes_any k t tm ld y A A' n j c c' rs ws wr.heap.size W HRL.out HWL.out ((HO20.out.strs.mono hwr).below h) (HW20.out.writes.below h) h.size hok)
          rw [← hX] at HLB
          rw [hv] at HLG
          clear hv hok hX
          go_wp2_with fail
          refine HLG.out.mono ?_
          rintro e w20 ⟨rfl, hb20⟩
          have kx := (hb20.block w6.heap.size hwx).trans KX20.out
          have x0 := cell_blk (i := 0) kx rfl
          have x1 := cell_blk (i := 1) kx rfl
          have x2 := cell_blk (i := 2) kx rfl
          have x3 := cell_blk (i := 3) kx rfl
          have x4 := cell_blk (i := 4) kx rfl
          have x5 := cell_blk (i := 5) kx rfl
          have x6 := cell_blk (i := 6) kx rfl
          have HB20 := Lib.hid hb20
          clear hb20 kx
          go_wp2_with fail
          refine (HLB.out w20 HB20.out).mono ?_
          rintro e w21 ⟨rfl, hb21⟩
          have hb := HB20.out.trans (hb21.mono HB20.out.size)
          have hs21 : wr.heap.size ≤ w21.heap.size := hb.size
          have kr := (hb.block w.heap.size hwr0).trans KR20.out
          have kx := (hb.block w6.heap.size hwx).trans KX20.out
          have y0 := cell_blk (i := 0) kr rfl
          have y1 := cell_blk (i := 1) kr rfl
          have y2 := cell_blk (i := 2) kr rfl
          have y3 := cell_blk (i := 3) kr rfl
          have y4 := cell_blk (i := 4) kr rfl
          have y5 := cell_blk (i := 5) kr rfl
          have y6 := cell_blk (i := 6) kr rfl
          have hfr := free_all kr
          have x0 := cell_blk (i := 0) kx rfl
          have x1 := cell_blk (i := 1) kx rfl
          have x2 := cell_blk (i := 2) kx rfl
          have x3 := cell_blk (i := 3) kx rfl
          have x4 := cell_blk (i := 4) kx rfl
          have x5 := cell_blk (i := 5) kx rfl
          have x6 := cell_blk (i := 6) kx rfl
          have HBN := Lib.hid (HBN0.out.trans (hb.mono HBN0.out.size))
          have HO21 := Lib.hid (HO20.out.below (hb.mono hwr))
          have HW21 := Lib.hid (HW20.out.below hb)
          clear hb hb21 kr kx
          by_cases hxb : X = b
          · have HEY := Lib.hid (HXE.out hxb)
            have heq : (X.toList == b.toList) = true := by rw [hxb]; simp
            clear hxb
            go_wp2
            have HM : ∀ W, Mid w.heap.size (w.heap.size + 1) w21 W → ReadEnd b w (.returned (.tuple #[.agg #[.int .i64 (k : Int), .int .i64 (t : Int), .int .i64 (tm : Int), .int .i64 (ld : Int), .slice A n c, .slice A' j c', .bool y], .bool true])) W := fun W hm => by
              have hsW : w21.heap.size ≤ W.heap.size := hm.2.2.2.1
              refine ⟨HBN.out.trans ((hm.below HBN.out.size)), .inl ⟨_, _, _, _, _, _, _, A, c, A', c', W9.heap.size, HEY.out, by rw [HRL.out, HWL.out], ?_, ?_, by omega, by omega⟩⟩
              · exact ((HO21.out.mid hm (.inl (by omega))).wider (by omega) (Nat.le_refl _))
              · exact ((HW21.out.mid hm (.inl (by omega))).wider (Nat.le_refl _) (by omega))
            refine bodyPost_ret (v := .tuple #[.agg #[.int .i64 (k : Int), .int .i64 (t : Int), .int .i64 (tm : Int), .int .i64 (ld : Int), .slice A n c, .slice A' j c', .bool y], .bool true]) (by simp [results, Try.results45, go_sem, *]) rfl (HM _ ?_)
            refine Mid.set ?_ (by simp) _
            refine Mid.set ?_ (by simp) _
            refine Mid.set ?_ (by simp) _
            refine Mid.set ?_ (by simp) _
            refine Mid.set ?_ (by simp) _
            refine Mid.set ?_ (by simp) _
            refine Mid.set ?_ (by simp) _
            exact Mid.refl _ _ _
          · have HNE := Lib.hid (HXN.out hxb)
            have heq : (X.toList == b.toList) = false := by
              rw [Bool.eq_false_iff]
              intro h
              exact hxb (by
                have h' : X.toList = b.toList := by simpa using h
                rw [ByteArray.toList_eq, ByteArray.toList_eq] at h'
                apply ByteArray.ext
                apply Array.ext'
                exact h')
            clear hxb
            go_wp2
            have HM : ∀ W, Mid w.heap.size (w.heap.size + 1) w21 W → ReadEnd b w (.returned (.tuple #[.agg #[.int .i64 0, .int .i64 0, .int .i64 0, .int .i64 0, .slice none 0 0, .slice none 0 0, .bool false], .bool false])) W := fun W hm =>
              ⟨HBN.out.trans ((hm.below HBN.out.size)), .inr ⟨HNE.out, rfl⟩⟩
            refine bodyPost_ret (v := .tuple #[.agg #[.int .i64 0, .int .i64 0, .int .i64 0, .int .i64 0, .slice none 0 0, .slice none 0 0, .bool false], .bool false]) (by simp [results, Try.results45, go_sem, *]) rfl (HM _ ?_)
            refine Mid.set ?_ (by simp) _
            refine Mid.set ?_ (by simp) _
            refine Mid.set ?_ (by simp) _
            refine Mid.set ?_ (by simp) _
            refine Mid.set ?_ (by simp) _
            refine Mid.set ?_ (by simp) _
            refine Mid.set ?_ (by simp) _
            exact Mid.refl _ _ _
    | none =>
      rw [hσ] at hP
      obtain ⟨q, hR⟩ := hP
      have d2 := hR.c2
      have hbk := HBK.out.trans (hG.below (B := w.heap.size + 1) (by omega) (by omega) (by omega))
      have kr := (hbk.block w.heap.size (by omega)).trans KR1.out
      have y0 := cell_blk (i := 0) kr rfl
      have y1 := cell_blk (i := 1) kr rfl
      have y2 := cell_blk (i := 2) kr rfl
      have y3 := cell_blk (i := 3) kr rfl
      have y4 := cell_blk (i := 4) kr rfl
      have y5 := cell_blk (i := 5) kr rfl
      have y6 := cell_blk (i := 6) kr rfl
      have hfr := free_all kr
      have HBN := Lib.hid (HB1.out.trans (hbk.mono (by omega)))
      have HNE := Lib.hid (show NoEnc b from fun k' t' tm' ld' y' rs' ws' he => by
        obtain ⟨_, _, _, _, _, _, _, h9⟩ := venc_reads HS.out he
        exact h9 j (by rw [← HN.out]; omega) hσ)
      clear hkb hown hbk kr hσ hR
      by_cases hm0 : 0 < m
      · skip
        go_wp2
        have HM : ∀ W, Mid w.heap.size (w.heap.size + 1) wr W → ReadEnd b w (.returned (.tuple #[.agg #[.int .i64 0, .int .i64 0, .int .i64 0, .int .i64 0, .slice none 0 0, .slice none 0 0, .bool false], .bool false])) W := fun W hm =>
          ⟨HBN.out.trans ((hm.below HBN.out.size)), .inr ⟨HNE.out, rfl⟩⟩
        refine bodyPost_ret (v := .tuple #[.agg #[.int .i64 0, .int .i64 0, .int .i64 0, .int .i64 0, .slice none 0 0, .slice none 0 0, .bool false], .bool false]) (by simp [results, Try.results45, go_sem, *]) rfl (HM _ ?_)
        refine Mid.set ?_ (by simp) _
        refine Mid.set ?_ (by simp) _
        refine Mid.set ?_ (by simp) _
        refine Mid.set ?_ (by simp) _
        refine Mid.set ?_ (by simp) _
        refine Mid.set ?_ (by simp) _
        refine Mid.set ?_ (by simp) _
        exact Mid.refl _ _ _
      · have hm00 : m = 0 := by omega
        subst hm00
        go_wp2
        have HM : ∀ W, Mid w.heap.size (w.heap.size + 1) wr W → ReadEnd b w (.returned (.tuple #[.agg #[.int .i64 0, .int .i64 0, .int .i64 0, .int .i64 0, .slice none 0 0, .slice none 0 0, .bool false], .bool false])) W := fun W hm =>
          ⟨HBN.out.trans ((hm.below HBN.out.size)), .inr ⟨HNE.out, rfl⟩⟩
        refine bodyPost_ret (v := .tuple #[.agg #[.int .i64 0, .int .i64 0, .int .i64 0, .int .i64 0, .slice none 0 0, .slice none 0 0, .bool false], .bool false]) (by simp [results, Try.results45, go_sem, *]) rfl (HM _ ?_)
        refine Mid.set ?_ (by simp) _
        refine Mid.set ?_ (by simp) _
        refine Mid.set ?_ (by simp) _
        refine Mid.set ?_ (by simp) _
        refine Mid.set ?_ (by simp) _
        refine Mid.set ?_ (by simp) _
        refine Mid.set ?_ (by simp) _
        exact Mid.refl _ _ _

theorem specReadRec_any (b : ByteArray) (w : World) (hm : b.size ≤ maxLen) : Calls Try.prog 45 #[.string b] w (ReadEnd b w) := by
  by_cases hsz : b.size < 3 ∨ 6000 < b.size
  · exact specRead_bad b w (noEnc_size hsz) (fun W => (C1.specOpen_out b W hm hsz).mono (fun e w' ⟨h1, h2⟩ => ⟨h1, by subst h2; exact Below.refl _ _⟩))
  · by_cases hok : C1.OkSeal b (b.size - 3)
    · exact specRead_in b w (by omega) (by omega) hok
    · exact specRead_bad b w (noEnc_seal hok) (fun W => C1.specOpen_no b W (b.size - 3) (by omega) (by omega) hok)
end Go.Proofs.Ytkhndofplebcaaa
