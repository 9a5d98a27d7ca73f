/-
  The contract of the program's ReadRec.
-/
import Derived.Test.YtkhndofplebcaaaRecIn
namespace Go.Proofs.Ytkhndofplebcaaa
open Go.RowKit CM
set_option linter.unusedVariables false

/-- The bytes without the seal. -/
def bodyOf (b : ByteArray) : ByteArray := ⟨(b.data.toList.take (b.size - 3)).toArray⟩
theorem three_len (n : Nat) : (C1.three n).length = 3 := rfl
theorem enc_parts {k t tm ld : Int} {y : Bool} {rs : List ByteArray} {ws : List (ByteArray × ByteArray × Bool)} {b : ByteArray} (h : Enc k t tm ld y rs ws b) :
    ∃ kn tn tmn ldn : Nat, k = kn ∧ t = tn ∧ tm = tmn ∧ ld = ldn ∧ RecOk kn tn tmn ldn rs ws ∧ (bodyOf b).data.toList = recBy kn tn tmn ldn y rs ws ∧ C1.OkSeal b (b.size - 3) ∧ 3 ≤ b.size ∧ b.size ≤ 6000 := by
  obtain ⟨hr, hb⟩ := h
  have hok := rec_ok hr
  have hok' := hok
  obtain ⟨⟨kn, tn, tmn, ldn, rfl, rfl, rfl, rfl, _⟩, l1, l2, hg, hws⟩ := hok'
  obtain ⟨l, hl⟩ : ∃ l, l = recBy kn tn tmn ldn y rs ws := ⟨_, rfl⟩
  have hd : b.data.toList = l ++ C1.three (C1.M.sumL l) := by rw [hb, hl]; rfl
  have hsz : b.size = l.length + 3 := by rw [size_of_data hd, List.length_append, three_len]
  have htk : b.data.toList.take (b.size - 3) = l := by rw [hd, hsz]; simp
  refine ⟨kn, tn, tmn, ldn, rfl, rfl, rfl, rfl, hok, ?_, ?_, by omega, ?_⟩
  · unfold bodyOf; rw [htk, ← hl]
  · unfold C1.OkSeal; rw [htk, hd, hsz]; simp
  · have e1 := headBy_len kn tn tmn ldn y rs ws.length hg (by omega)
    have e2 := wsBy_len ws ws.length (Nat.le_refl _) hws
    have e3 : l.length = (headBy kn tn tmn ldn y rs ws.length).length + (wsBy ws ws.length).length := by rw [hl]; unfold recBy; rw [List.length_append]
    omega
/-- Bytes are those of one record at most, and it is what the program reads. -/
theorem enc_reads {k t tm ld : Int} {y : Bool} {rs : List ByteArray} {ws : List (ByteArray × ByteArray × Bool)} {b : ByteArray} (h : Enc k t tm ld y rs ws b) :
    k = ((r1 (bodyOf b)).1 : Int) ∧ t = ((r2 (bodyOf b)).1 : Int) ∧ tm = ((r3 (bodyOf b)).1 : Int) ∧ ld = ((r4 (bodyOf b)).1 : Int) ∧ y = (((r5 (bodyOf b)).1 : Int) == 1) ∧ rs = (r6 (bodyOf b)).1 ∧ ws = (r8 (bodyOf b)).1 := by
  obtain ⟨kn, tn, tmn, ldn, rfl, rfl, rfl, rfl, hok, hd, _⟩ := enc_parts h
  obtain ⟨a1, a2, a3, a4, a5, a6, a7⟩ := reads_ok hd hok
  rw [a1, a2, a3, a4, a5, a6, a7]
  exact ⟨rfl, rfl, rfl, rfl, rfl, rfl, rfl⟩
def NoEnc (b : ByteArray) : Prop := ∀ k t tm ld y rs ws, ¬ Enc k t tm ld y rs ws b
theorem noEnc_size {b : ByteArray} (h : b.size < 3 ∨ 6000 < b.size) : NoEnc b := fun k t tm ld y rs ws he => by
  obtain ⟨_, _, _, _, _, _, _, _, _, _, _, h1, h2⟩ := enc_parts he
  omega
theorem noEnc_seal {b : ByteArray} (h : ¬ C1.OkSeal b (b.size - 3)) : NoEnc b := fun k t tm ld y rs ws he => by
  obtain ⟨_, _, _, _, _, _, _, _, _, _, h1, _⟩ := enc_parts he
  exact h h1
/-- What ReadRec answers. -/
def ReadEnd (b : ByteArray) (w : World) (e : Ending) (w' : World) : Prop :=
  Below w.heap.size w w' ∧
    ((∃ k t tm ld y rs ws A c A' c' m, Enc k t tm ld y rs ws b ∧ e = .returned (.tuple #[.agg #[.int .i64 k, .int .i64 t, .int .i64 tm, .int .i64 ld, .slice A rs.length c, .slice A' ws.length c', .bool y], .bool true]) ∧ OwnS w' w.heap.size m A c rs ∧ OwnW w' m w'.heap.size A' c' ws ∧ w.heap.size ≤ m ∧ m ≤ w'.heap.size) ∨
      (NoEnc b ∧ e = .returned (.tuple #[.agg #[.int .i64 0, .int .i64 0, .int .i64 0, .int .i64 0, .slice none 0 0, .slice none 0 0, .bool false], .bool false])))
def zeroRec : Obj := .cells #[.int .i64 0, .int .i64 0, .int .i64 0, .int .i64 0, .slice none 0 0, .slice none 0 0, .bool false] 33

set_option maxRecDepth 100000 in
set_option maxHeartbeats 1000000 in
theorem implRead_bad (b : ByteArray) (w : World) (hE : NoEnc b) (hO : ∀ W, Calls Try.prog 101 #[.string b] W fun e w' => e = .returned (.tuple #[.string ⟨#[]⟩, .bool false]) ∧ Below W.heap.size W w') :
    Calls Try.prog 47 #[.string b] w (ReadEnd b w) := by
  have HO := Lib.hid (hO (w.alloc zeroRec))
  have HB := Lib.hid (below1 w zeroRec)
  have KR := Lib.hid (heap_alloc_new w zeroRec)
  have HE := Lib.hid hE
  clear hO hE
  go_enter Try.func47, Try.ntmps47
  go_wp2_with fail
  refine HO.out.mono ?_
  rintro e w1 ⟨rfl, hb⟩
  have kr := (hb.block w.heap.size (by simp)).trans KR.out
  have y0 := cell_blk (i := 0) kr rfl
  have y1 := cell_blk (i := 1) kr rfl
  have y2 := cell_blk (i := 2) kr rfl
  have y3 := cell_blk (i := 3) kr rfl
  have y4 := cell_blk (i := 4) kr rfl
  have y5 := cell_blk (i := 5) kr rfl
  have y6 := cell_blk (i := 6) kr rfl
  have hfr := free_all kr
  have HB1 := Lib.hid (HB.out.trans (hb.mono HB.out.size))
  clear hb kr
  go_wp2
  have HM : ∀ W, Mid w.heap.size (w.heap.size + 1) w1 W → ReadEnd b w (.returned (.tuple #[.agg #[.int .i64 0, .int .i64 0, .int .i64 0, .int .i64 0, .slice none 0 0, .slice none 0 0, .bool false], .bool false])) W := fun W hm =>
    ⟨HB1.out.trans ((hm.below HB1.out.size)), .inr ⟨HE.out, rfl⟩⟩
  refine bodyPost_ret (v := .tuple #[.agg #[.int .i64 0, .int .i64 0, .int .i64 0, .int .i64 0, .slice none 0 0, .slice none 0 0, .bool false], .bool false]) (by simp [results, Try.results47, go_sem, *]) rfl (HM _ ?_)
  refine Mid.set ?_ (by simp) _
  refine Mid.set ?_ (by simp) _
  refine Mid.set ?_ (by simp) _
  refine Mid.set ?_ (by simp) _
  refine Mid.set ?_ (by simp) _
  refine Mid.set ?_ (by simp) _
  refine Mid.set ?_ (by simp) _
  exact Mid.refl _ _ _

set_option maxRecDepth 100000 in
set_option maxHeartbeats 2000000 in
theorem implRead_in (b : ByteArray) (w : World) (h3 : 3 ≤ b.size) (h6 : b.size ≤ 6000) (hok : C1.OkSeal b (b.size - 3)) :
    Calls Try.prog 47 #[.string b] w (ReadEnd b w) := by
  have HO := Lib.hid (C1.implOpen_yes b (w.alloc zeroRec) (b.size - 3) (by omega) h6 hok)
  obtain ⟨s, hs⟩ : ∃ s, s = bodyOf b := ⟨_, rfl⟩
  have hsz : s.size ≤ 6000 := by
    rw [hs]; unfold bodyOf
    show (b.data.toList.take (b.size - 3)).toArray.size ≤ 6000
    simp; omega
  rw [show (⟨(b.data.toList.take (b.size - 3)).toArray⟩ : ByteArray) = s from hs.symm] at HO
  obtain ⟨x, hx⟩ : ∃ x, x = (recBytes ((r1 s).1 : Int) ((r2 s).1 : Int) ((r3 s).1 : Int) ((r4 s).1 : Int) (((r5 s).1 : Int) == 1) (r6 s).1 (r8 s).1).1 := ⟨_, rfl⟩
  obtain ⟨ok, hk⟩ : ∃ ok, ok = (recBytes ((r1 s).1 : Int) ((r2 s).1 : Int) ((r3 s).1 : Int) ((r4 s).1 : Int) (((r5 s).1 : Int) == 1) (r6 s).1 (r8 s).1).2 := ⟨_, rfl⟩
  have hend : RecBytesEnd ((r1 s).1 : Int) ((r2 s).1 : Int) ((r3 s).1 : Int) ((r4 s).1 : Int) (((r5 s).1 : Int) == 1) (r6 s).1 (r8 s).1 = .returned (.tuple #[.string x, .bool ok]) := by unfold RecBytesEnd; rw [hx, hk]
  have hyes : ok = true → x = b → Enc ((r1 s).1 : Int) ((r2 s).1 : Int) ((r3 s).1 : Int) ((r4 s).1 : Int) (((r5 s).1 : Int) == 1) (r6 s).1 (r8 s).1 b := fun h1 h2 => by
    rw [hk] at h1
    rw [hx] at h2
    unfold recBytes at h1 h2
    split at h1
    · rename_i hr
      rw [if_pos hr] at h2
      exact ⟨hr, h2.symm⟩
    · cases h1
  have hno : (ok = false ∨ x ≠ b) → NoEnc b := fun h k t tm ld y rs ws he => by
    obtain ⟨rfl, rfl, rfl, rfl, rfl, rfl, rfl⟩ := enc_reads he
    rw [← hs] at he
    have e : recBytes ((r1 s).1 : Int) ((r2 s).1 : Int) ((r3 s).1 : Int) ((r4 s).1 : Int) (((r5 s).1 : Int) == 1) (r6 s).1 (r8 s).1 = (b, true) := by
      unfold recBytes
      rw [if_pos he.1, ← he.2]
    rw [e] at hx hk
    rcases h with h | h
    · rw [h] at hk; cases hk
    · exact h hx
  have hsplit : (ok = false) ∨ (ok = true ∧ x ≠ b ∧ (x.toList == b.toList) = false) ∨ (ok = true ∧ x = b ∧ (x.toList == b.toList) = true) := by
    cases ok with
    | false => exact .inl rfl
    | true =>
      by_cases hxb : x = b
      · exact .inr (.inr ⟨rfl, hxb, by rw [hxb]; simp⟩)
      · refine .inr (.inl ⟨rfl, hxb, ?_⟩)
        rw [Bool.eq_false_iff]
        intro h
        exact hxb (by
          have h' : x.toList = b.toList := by simpa using h
          rw [ByteArray.toList_eq, ByteArray.toList_eq] at h'
          apply ByteArray.ext
          apply Array.ext'
          exact h')
  have HEND := Lib.hid hend
  have HYES := Lib.hid (fun h1 h2 => hyes h1 h2)
  have HNO := Lib.hid hno
  have HB := Lib.hid (below1 w zeroRec)
  have KR := Lib.hid (heap_alloc_new w zeroRec)
  have hs0 : (w.alloc zeroRec).heap.size = w.heap.size + 1 := by simp
  clear hx hk hend hyes hno hs
  have HSP := Lib.hid hsplit
  clear hsplit
  go_enter Try.func47, Try.ntmps47
  go_wp2_with fail
  refine HO.out.mono ?_
  rintro e w1 ⟨rfl, hb1⟩
  have kr1 := (hb1.block w.heap.size (by simp)).trans KR.out
  have HB1 := Lib.hid (HB.out.trans (hb1.mono HB.out.size))
  have KR1 := Lib.hid kr1
  have hs1 : w.heap.size < w1.heap.size := lt_blk kr1
  clear hb1 kr1
  go_wp2_with fail
  refine (recIn_any s w1 hsz).mono ?_
  rintro e w2 ⟨A, c, A', c', m, rfl, hO2, hW2, hm1, hm2, hB2, h40⟩
  have hin0 : RIn s (some 0) := fun q hq => by injection hq with hq; omega
  have i1 : RIn s (r1 s).2 := (rdN_in hin0).1
  have i2 : RIn s (r2 s).2 := (rdN_in i1).1
  have i3 : RIn s (r3 s).2 := (rdN_in i2).1
  have i4 : RIn s (r4 s).2 := (rdN_in i3).1
  have i5 : RIn s (r5 s).2 := (rdN_in i4).1
  have i6 := rdTs_in i5
  have i7 : RIn s (r7 s).2 := (rdN_in i6.1).1
  have i8 := rdWs_in i7 (min (r7 s).1 8)
  have hl8 : (r8 s).1.length ≤ 8 := by unfold r8; rw [rdWs_len]; omega
  have hsr : SSmall (r6 s).1 := ⟨by omega, fun x hx => by have := i6.2 x hx; omega⟩
  have hsw : WSmall (r8 s).1 := ⟨by omega, fun x hx => by have := i8.2 x hx; omega⟩
  clear i1 i2 i3 i4 i5 i6 i7 i8 hin0
  obtain ⟨o, ho⟩ : ∃ o : Obj, o = .cells #[.int .i64 ((r1 s).1 : Int), .int .i64 ((r2 s).1 : Int), .int .i64 ((r3 s).1 : Int), .int .i64 ((r4 s).1 : Int), .slice A (r6 s).1.length c, .slice A' (r8 s).1.length c', .bool (((r5 s).1 : Int) == 1)] 33 := ⟨_, rfl⟩
  have hb3 : Below w2.heap.size w2 (w2.alloc o) := below1 _ _
  have hs3 : (w2.alloc o).heap.size = w2.heap.size + 1 := by simp
  have HR := Lib.hid (implRecBytes_any ((r1 s).1 : Int) ((r2 s).1 : Int) ((r3 s).1 : Int) ((r4 s).1 : Int) (((r5 s).1 : Int) == 1) A A' (r6 s).1.length (r8 s).1.length c c' (r6 s).1 (r8 s).1 w2.heap.size (w2.alloc o) rfl rfl ((hO2.strs.mono hm2).below hb3) (hW2.writes.below hb3) (by omega) hsr hsw)
  have HB3 := Lib.hid (HB1.out.trans ((hB2.mono HB1.out.size)))
  have HO2 := Lib.hid (hO2.below (hb3.mono hm2))
  have HW2 := Lib.hid (hW2.below hb3)
  have hb13 : Below w1.heap.size w1 (w2.alloc o) := hB2.trans (hb3.mono hB2.size)
  have KR3 := Lib.hid ((hb13.block w.heap.size hs1).trans KR1.out)
  have KX3 := Lib.hid (show (w2.alloc o).heap[w2.heap.size]? = some o from heap_alloc_new _ _)
  have hs12 : w1.heap.size ≤ w2.heap.size := hB2.size
  have HB4 := Lib.hid (HB3.out.trans (hb3.mono HB3.out.size))
  obtain ⟨w3, hw3⟩ : ∃ w3, w3 = w2.alloc o := ⟨_, rfl⟩
  have HV := Lib.hid (hw3.trans (by rw [ho]))
  rw [← hw3] at HR HO2 HW2 KR3 KX3 HB4 hs3
  rw [ho] at KX3
  clear hO2 hW2 hB2 hb3 hb13 hsr hsw h40 hl8 hw3 ho
  go_wp2_with fail
  rw [← HV.out]
  refine HR.out.mono ?_
  rintro e w4 ⟨he, hb4⟩
  rw [HEND.out] at he
  subst he
  have hs34 : w3.heap.size ≤ w4.heap.size := hb4.size
  have kr := (hb4.block w.heap.size (by omega)).trans KR3.out
  have kx := (hb4.block w2.heap.size (by omega)).trans KX3.out
  have y0 := cell_blk (i := 0) kr rfl
  have y1 := cell_blk (i := 1) kr rfl
  have y2 := cell_blk (i := 2) kr rfl
  have y3 := cell_blk (i := 3) kr rfl
  have y4 := cell_blk (i := 4) kr rfl
  have y5 := cell_blk (i := 5) kr rfl
  have y6 := cell_blk (i := 6) kr rfl
  have hfr := free_all kr
  have x0 := cell_blk (i := 0) kx rfl
  have x1 := cell_blk (i := 1) kx rfl
  have x2 := cell_blk (i := 2) kx rfl
  have x3 := cell_blk (i := 3) kx rfl
  have x4 := cell_blk (i := 4) kx rfl
  have x5 := cell_blk (i := 5) kx rfl
  have x6 := cell_blk (i := 6) kx rfl
  have HB5 := Lib.hid (HB4.out.trans (hb4.mono HB4.out.size))
  have HO4 := Lib.hid (HO2.out.below (hb4.mono (by omega)))
  have HW4 := Lib.hid (HW2.out.below (hb4.mono (by omega)))
  clear hb4 kr kx
  rcases HSP.out with hk0 | ⟨hk1, hne, heq⟩ | ⟨hk1, hxb, heq⟩
  · have HNE := Lib.hid (HNO.out (.inl hk0))
    subst hk0
    go_wp2
    have HM : ∀ W, Mid w.heap.size (w.heap.size + 1) w4 W → ReadEnd b w (.returned (.tuple #[.agg #[.int .i64 0, .int .i64 0, .int .i64 0, .int .i64 0, .slice none 0 0, .slice none 0 0, .bool false], .bool false])) W := fun W hm =>
      ⟨HB5.out.trans ((hm.below HB5.out.size)), .inr ⟨HNE.out, rfl⟩⟩
    refine bodyPost_ret (v := .tuple #[.agg #[.int .i64 0, .int .i64 0, .int .i64 0, .int .i64 0, .slice none 0 0, .slice none 0 0, .bool false], .bool false]) (by simp [results, Try.results47, go_sem, *]) rfl (HM _ ?_)
    refine Mid.set ?_ (by simp) _
    refine Mid.set ?_ (by simp) _
    refine Mid.set ?_ (by simp) _
    refine Mid.set ?_ (by simp) _
    refine Mid.set ?_ (by simp) _
    refine Mid.set ?_ (by simp) _
    refine Mid.set ?_ (by simp) _
    exact Mid.refl _ _ _
  · have HNE := Lib.hid (HNO.out (.inr hne))
    subst hk1
    clear hne
    go_wp2
    have HM : ∀ W, Mid w.heap.size (w.heap.size + 1) w4 W → ReadEnd b w (.returned (.tuple #[.agg #[.int .i64 0, .int .i64 0, .int .i64 0, .int .i64 0, .slice none 0 0, .slice none 0 0, .bool false], .bool false])) W := fun W hm =>
      ⟨HB5.out.trans ((hm.below HB5.out.size)), .inr ⟨HNE.out, rfl⟩⟩
    refine bodyPost_ret (v := .tuple #[.agg #[.int .i64 0, .int .i64 0, .int .i64 0, .int .i64 0, .slice none 0 0, .slice none 0 0, .bool false], .bool false]) (by simp [results, Try.results47, go_sem, *]) rfl (HM _ ?_)
    refine Mid.set ?_ (by simp) _
    refine Mid.set ?_ (by simp) _
    refine Mid.set ?_ (by simp) _
    refine Mid.set ?_ (by simp) _
    refine Mid.set ?_ (by simp) _
    refine Mid.set ?_ (by simp) _
    refine Mid.set ?_ (by simp) _
    exact Mid.refl _ _ _
  · have HEY := Lib.hid (HYES.out hk1 hxb)
    subst hk1
    clear hxb
    go_wp2
    have HM : ∀ W, Mid w.heap.size (w.heap.size + 1) w4 W → ReadEnd b w (.returned (.tuple #[.agg #[.int .i64 ((r1 s).1 : Int), .int .i64 ((r2 s).1 : Int), .int .i64 ((r3 s).1 : Int), .int .i64 ((r4 s).1 : Int), .slice A (r6 s).1.length c, .slice A' (r8 s).1.length c', .bool (((r5 s).1 : Int) == 1)], .bool true])) W := fun W hm => by
      have hsW : w4.heap.size ≤ W.heap.size := hm.2.2.2.1
      refine ⟨HB5.out.trans ((hm.below HB5.out.size)), .inl ⟨_, _, _, _, _, _, _, A, c, A', c', m, HEY.out, rfl, ?_, ?_, by omega, by omega⟩⟩
      · exact ((HO4.out.mid hm (.inl (by omega))).wider (by omega) (Nat.le_refl _))
      · exact ((HW4.out.mid hm (.inl (by omega))).wider (Nat.le_refl _) (by omega))
    refine bodyPost_ret (v := .tuple #[.agg #[.int .i64 ((r1 s).1 : Int), .int .i64 ((r2 s).1 : Int), .int .i64 ((r3 s).1 : Int), .int .i64 ((r4 s).1 : Int), .slice A (r6 s).1.length c, .slice A' (r8 s).1.length c', .bool (((r5 s).1 : Int) == 1)], .bool true]) (by simp [results, Try.results47, go_sem, *]) rfl (HM _ ?_)
    refine Mid.set ?_ (by simp) _
    refine Mid.set ?_ (by simp) _
    refine Mid.set ?_ (by simp) _
    refine Mid.set ?_ (by simp) _
    refine Mid.set ?_ (by simp) _
    refine Mid.set ?_ (by simp) _
    refine Mid.set ?_ (by simp) _
    exact Mid.refl _ _ _

theorem implReadRec_any (b : ByteArray) (w : World) (hm : b.size ≤ maxLen) : Calls Try.prog 47 #[.string b] w (ReadEnd b w) := by
  by_cases hsz : b.size < 3 ∨ 6000 < b.size
  · exact implRead_bad b w (noEnc_size hsz) (fun W => (C1.implOpen_out b W hm hsz).mono (fun e w' ⟨h1, h2⟩ => ⟨h1, by subst h2; exact Below.refl _ _⟩))
  · by_cases hok : C1.OkSeal b (b.size - 3)
    · exact implRead_in b w (by omega) (by omega) hok
    · exact implRead_bad b w (noEnc_seal hok) (fun W => C1.implOpen_no b W (b.size - 3) (by omega) (by omega) hok)
end Go.Proofs.Ytkhndofplebcaaa
