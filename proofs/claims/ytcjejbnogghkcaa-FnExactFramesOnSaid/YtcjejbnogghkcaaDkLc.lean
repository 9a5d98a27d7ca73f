/-
  The walk of the exact law FramesOn.
-/
import Derived.Test.YtcjejbnogghkcaaDk8
import Derived.Test.YtcjejbnogghkcaaMarkS
namespace Go.Proofs.Ytcjejbnogghkcaa.Dk
open Go.RowKit
set_option linter.unusedVariables false
set_option linter.unusedSimpArgs false

theorem s9_flat (L : List ByteArray) : C1.S9 L = (L.map strCs).flatten := by
  induction L with
  | nil => rfl
  | cons s L ih => simp only [C1.S9, List.map_cons, List.flatten_cons, strCs] at ih ⊢; rw [ih]; rfl
theorem ownS_of {w : World} {lo c : Nat} {A : Option Addr} {L : List ByteArray} (h : w.ownsRow lo 9 1 (.slice A L.length c) L.length (C1.S9 L)) : OwnS w lo w.heap.size A c L := by
  rw [s9_flat] at h
  obtain ⟨A', c', e, _, ho⟩ := Own.ofRow (hi := w.heap.size) h (strCs_len L) (by decide) (fun k hk => (h.lt k hk).2)
  injection e with e1 e2 e3
  subst e1 e3
  exact ho
theorem mid_below {A : Option Addr} {w w' : World} (h : MidA A w w') {B : Nat} (hA : ∀ x, A = some x → B ≤ x.block) (hB : B ≤ w.heap.size) : Below B w w' :=
  ⟨h.1, h.2.1, h.2.2.1, h.2.2.2.1, fun k hk => h.2.2.2.2 k (by omega) (fun x hx => by have := hA x hx; omega)⟩
theorem onA_len (k l : ByteArray) (h : k.size + l.size ≤ 1048576) : (onA k l).1.length ≤ 1048576 := by
  cases hg : goodB k l with
  | false => rw [onA_no hg]; simp
  | true =>
    rw [onA_yes hg]
    have := (frs_zero (k ++ l) (k ++ l).size).2
    rw [ByteArray.size_append] at this
    show (frs (k ++ l) (k ++ l).size 0).1.length ≤ 1048576
    rw [ByteArray.size_append]
    omega

set_option maxRecDepth 100000 in
set_option maxHeartbeats 4000000 in
theorem framesOn_walk (w : World) (k l : ByteArray) (hk : k.size ≤ maxLen) (hl : l.size ≤ maxLen) :
    Calls Try.prog 13 #[.agg #[.string k, .string l]] w fun e w' => e = .returned (.bool true) ∧ Below w.heap.size w w' := by
  by_cases h : k.size + l.size ≤ 1048576
  · have hk1 : k.size ≤ 1048576 := by omega
    have hl1 : l.size ≤ 1048576 := by omega
    have HZ := Lib.hid (fun W => szDisk_yes k l W h)
    have h0 : (0 : Int) ≤ 1048576 - (k.size : Int) - (l.size : Int) := by omega
    have HT := Lib.hid (fun W => toDisk_any k l W)
    have HS := Lib.hid (fun W => specOn_any k l W hk1 hl1)
    have HI := Lib.hid (fun W => implOn_any k l W hk1 hl1)
    have hlen := onA_len k l h
    obtain ⟨⟨R, y, ok⟩, hr⟩ : ∃ r, r = onA k l := ⟨_, rfl⟩
    rw [← hr] at HS HI hlen
    unfold OEnd at HS HI
    simp only at HS HI hlen
    have HN := Lib.hid (heap_alloc_new w (.cells #[.string k, .string l] 46))
    clear hr h hk1 hl1 hk hl
    obtain ⟨W0, hW0⟩ : ∃ W0, W0 = w.alloc (.cells #[.string k, .string l] 46) := ⟨_, rfl⟩
    have hb0 : Below w.heap.size w W0 := by rw [hW0]; exact below1 _ _
    rw [← hW0] at HN
    have HW0 := Lib.hid hW0
    have HB0 := Lib.hid hb0
    have hlt0 : w.heap.size < W0.heap.size := blk_lt HN.out
    clear hW0 hb0
    go_enter Try.func13, Try.ntmps13
    go_wp2_with fail
    rw [← HW0.out]
    refine (HZ.out _).mono ?_
    rintro e w1 ⟨rfl, hb1⟩
    have HB1 := Lib.hid hb1
    have kn := (hb1.block w.heap.size hlt0).trans HN.out
    have a0 := cell_of_row _ _ 0 _ _ (0, 0) kn
    have a1 := cell_of_row _ _ 1 _ _ (0, 0) kn
    clear hb1 kn
    go_wp2_with fail
    refine (HT.out _).mono ?_
    rintro e w2 ⟨rfl, hb2⟩
    have HB2 := Lib.hid (HB1.out.trans (hb2.mono HB1.out.size))
    clear hb2 a0 a1
    go_wp2_with fail
    refine (HS.out _).mono ?_
    rintro e w3 ⟨A0, c0, rfl, hr0, hb3⟩
    have HB3 := Lib.hid (HB2.out.trans (hb3.mono HB2.out.size))
    have HR3 := Lib.hid (ownS_of hr0).strs
    have kn := (HB3.out.block w.heap.size hlt0).trans HN.out
    have a0 := cell_of_row _ _ 0 _ _ (0, 0) kn
    have a1 := cell_of_row _ _ 1 _ _ (0, 0) kn
    clear hb3 hr0 kn
    go_wp2_with fail
    refine (HT.out _).mono ?_
    rintro e w4 ⟨rfl, hb4⟩
    have HB4 := Lib.hid (HB3.out.trans (hb4.mono HB3.out.size))
    have HR4 := Lib.hid (HR3.out.below hb4)
    have h34 := hb4.size
    clear hb4 a0 a1
    go_wp2_with fail
    refine (HI.out _).mono ?_
    rintro e w5 ⟨A1, c1, rfl, hg1, hb5⟩
    have HB5 := Lib.hid (HB4.out.trans (hb5.mono HB4.out.size))
    have HG5 := Lib.hid (ownS_of hg1)
    have HR5 := Lib.hid (HR4.out.below (hb5.mono h34))
    have h45 := hb5.size
    have HE5 := Lib.hid (eqStringS_same A1 A0 R.length c1 c0 R w5.heap.size w5 rfl HG5.out.strs (HR5.out.mono (by omega)) (Nat.le_refl _) hlen)
    clear hb5 hg1
    go_wp2_with fail
    refine HE5.out.mono ?_
    rintro e w6 ⟨rfl, hb6⟩
    have HB6 := Lib.hid (HB5.out.trans (hb6.mono HB5.out.size))
    have h56 := hb6.size
    have HG6 := Lib.hid (HG5.out.below hb6)
    have HR6 := Lib.hid (HR5.out.below (hb6.mono (by omega)))
    have HMS := Lib.hid (markStringS_any A1 R.length c1 1 w4.heap.size w5.heap.size R w6 rfl HG6.out (by omega) (by omega))
    have HA1 := Lib.hid (show ∀ x, A1 = some x → w4.heap.size ≤ x.block ∧ x.block < w5.heap.size from fun x hx => by have := Own.block HG6.out x hx; exact ⟨this.1, this.2.1⟩)
    clear hb6
    go_wp2_with fail
    refine HMS.out.mono ?_
    rintro e w7 ⟨rfl, hg7, hma⟩
    have hbma : Below w4.heap.size w6 w7 := mid_below hma (fun x hx => (HA1.out x hx).1) (by omega)
    have HB7 := Lib.hid (HB6.out.trans (hbma.mono (by have := HB4.out.size; omega)))
    have h67 := hbma.size
    have HR7 := Lib.hid (HR6.out.below (hbma.mono (by omega)))
    have HG7 := Lib.hid hg7.strs
    have HH := Lib.hid (heldStringS_any A1 R.length c1 1 w5.heap.size w7 hg7.strs (by omega) (by omega) (by omega))
    clear hg7 hma hbma
    go_wp2_with fail
    refine HH.out.mono ?_
    rintro e w8 ⟨rfl, hb8⟩
    have HB8 := Lib.hid (HB7.out.trans (hb8.mono HB7.out.size))
    have h78 := hb8.size
    have HR8 := Lib.hid (HR7.out.below (hb8.mono (by omega)))
    have HG8 := Lib.hid (HG7.out.below (hb8.mono (by omega)))
    have hn1 : (0 : Int) ≤ ((1 + R.length : Nat) : Int) := by omega
    have kn := (HB8.out.block w.heap.size hlt0).trans HN.out
    have a0 := cell_of_row _ _ 0 _ _ (0, 0) kn
    have a1 := cell_of_row _ _ 1 _ _ (0, 0) kn
    clear hb8 kn
    go_wp2_with fail
    refine (HT.out _).mono ?_
    rintro e w9 ⟨rfl, hb9⟩
    have HB9 := Lib.hid (HB8.out.trans (hb9.mono HB8.out.size))
    have h89 := hb9.size
    have HR9 := Lib.hid (HR8.out.below (hb9.mono (by omega)))
    have HG9 := Lib.hid (HG8.out.below (hb9.mono (by omega)))
    clear hb9 a0 a1
    go_wp2_with fail
    refine (HI.out _).mono ?_
    rintro e w10 ⟨A2, c2, rfl, hg2, hb10⟩
    have HB10 := Lib.hid (HB9.out.trans (hb10.mono HB9.out.size))
    have h910 := hb10.size
    have HR10 := Lib.hid (HR9.out.below (hb10.mono (by omega)))
    have HG10 := Lib.hid (HG9.out.below (hb10.mono (by omega)))
    have HE10 := Lib.hid (eqStringS_same A2 A0 R.length c2 c0 R w10.heap.size w10 rfl (ownS_of hg2).strs (HR10.out.mono (by omega)) (Nat.le_refl _) hlen)
    clear hb10 hg2
    go_wp2_with fail
    refine HE10.out.mono ?_
    rintro e w11 ⟨rfl, hb11⟩
    have HB11 := Lib.hid (HB10.out.trans (hb11.mono HB10.out.size))
    have h1011 := hb11.size
    have HG11 := HG10.out.below (hb11.mono (by omega))
    have HH11 := Lib.hid (heldStringS_any A1 R.length c1 1 w5.heap.size w11 HG11 (by omega) (by omega) (by omega))
    clear hb11 HG11
    go_wp2_with fail
    refine HH11.out.mono ?_
    rintro e w12 ⟨rfl, hb12⟩
    have HF := Lib.hid (HB0.out.trans ((HB11.out.trans (hb12.mono HB11.out.size)).mono HB0.out.size))
    clear hb12
    go_wp2
    go_ret
    exact ⟨rfl, HF.out⟩
  · have HZ := Lib.hid (fun W => szDisk_no k l W hk hl h)
    clear h hk hl
    go_enter Try.func13, Try.ntmps13
    go_wp2_with fail
    refine (HZ.out _).mono ?_
    rintro e w1 ⟨rfl, hb1⟩
    have B1 := (below1 _ _).trans (hb1.mono (below1 _ _).size)
    go_wp2
    go_ret
    exact ⟨rfl, B1⟩
end Go.Proofs.Ytcjejbnogghkcaa.Dk
