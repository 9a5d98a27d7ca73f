/-
  The contract of the model's reader for a number.
-/
import Derived.Test.YtodfefaknclemaaReader
import Derived.Lib.Strings
namespace Go.Proofs.Ytodfefaknclemaa
open Go.RowKit

/-- What the loop of the model's num keeps. -/
def RNRel (w : World) (g : Nat) (s : ByteArray) (q : Nat) (n u i : Value) (wr : World) : Prop :=
  ∃ k U : Nat, k ≤ 5 ∧ q + k ≤ s.size ∧ M.High (s.data.toList.drop q) k ∧ Unit k U ∧ n = .int .i64 (M.vl ((s.data.toList.drop q).take k) : Nat) ∧ u = .int .i64 (U : Nat) ∧ i = .int .i64 (k : Int) ∧ RAt wr g s (q + k) false ∧ w.grownBy wr (some g)

/-- What num leaves: the number and the offset behind it, or 0 and a reader that is bad. -/
def RNPost (w : World) (g : Nat) (s : ByteArray) (q : Nat) (e : Ending) (w' : World) : Prop :=
  w.grownBy w' (some g) ∧
  (((M.readNum s.data.toList q).2.2 = true ∧ e = .returned (.int .i64 ((M.readNum s.data.toList q).1 : Nat)) ∧ RAt w' g s (M.readNum s.data.toList q).2.1 false) ∨
   ((M.readNum s.data.toList q).2.2 = false ∧ e = .returned (.int .i64 0) ∧ ∃ q', RAt w' g s q' true))

theorem l1NumB_int (x : Int) (m : Nat) (hx : x = (m : Int)) (w : World) (hm : m ≤ 1000000000) :
    Calls Try.prog 52 #[.int .i64 x] w fun e w' => e = .returned (.string ⟨(M.numB m).toArray⟩) ∧ Below w.heap.size w w' := by
  subst hx; exact l1NumB_any m w hm
theorem grown_drew {w w1 : World} {row : Option Nat} (h : w.grownBy w1 row) : w.grownBy w1.drew row := ⟨h.os, h.tape, h.output, h.size, h.block⟩
theorem cut_list (s : ByteArray) (q k x : Nat) (hx : x = q + k) : (s.extract q x).toList = (s.data.toList.drop q).take k := by
  subst hx
  rw [ByteArray.toList_eq, Lib.extract_data, show q + k - q = k from by omega]

theorem rn_bad {w w' : World} {g : Nat} {s : ByteArray} {q q' : Nat} (hh : M.readNum s.data.toList q = (0, 0, false)) (hG : w.grownBy w' (some g)) (hR : RAt w' g s q' true) : RNPost w g s q (.returned (.int .i64 0)) w' :=
  ⟨hG, .inr ⟨by rw [hh], rfl, q', hR⟩⟩
theorem rn_good {w w' : World} {g : Nat} {s : ByteArray} {q n x : Nat} {v : Int} (hh : M.readNum s.data.toList q = (n, x, true)) (hv : v = (n : Int)) (hG : w.grownBy w' (some g)) (hR : RAt w' g s x false) : RNPost w g s q (.returned (.int .i64 v)) w' :=
  ⟨hG, .inl ⟨by rw [hh], by rw [hh, hv], by rw [hh]; exact hR⟩⟩

set_option maxRecDepth 100000 in
set_option maxHeartbeats 4000000 in
theorem rnum_any (g : Nat) (s : ByteArray) (q : Nat) (w : World) (h : RAt w g s q false) (hs : s.size ≤ 6000) (hq : q ≤ s.size) :
    Calls Try.prog 64 #[.pointer (some ⟨g, 0, none⟩)] w (RNPost w g s q) := by
  have hc1 := h.c1
  go_enter Try.func64, Try.ntmps64
  go_wp2_with fail
  go_loopw [4, 5, 6] (fun n u i wr => RNRel w g s q n u i wr) (fun _ _ i _ => 5 - (intOf i).toNat)
  case atStart => exact ⟨0, 1, by omega, by omega, fun j hj => by omega, rfl, rfl, rfl, rfl, h, grown_refl _ _⟩
  case round =>
    obtain ⟨k, U, hk, hkl, hhi, hU, rfl, rfl, rfl, hR, hG⟩ := hrel
    clear hc1
    by_cases hk5 : k < 5
    · obtain ⟨hu1, hu2⟩ := unit_small hU hk5
      by_cases hlt : q + k < s.size
      · obtain ⟨n, hn⟩ : ∃ n, n = M.vl ((s.data.toList.drop q).take k) := ⟨_, rfl⟩
        have hnU : n < U := by rw [hn]; exact vl_more_lt s q k U hkl hU
        have HT := Lib.hid (vl_more s q k U n hlt hU hn)
        have HB := Lib.hid (byte_at s q k hlt)
        obtain ⟨hp1, hp2⟩ := prod_bound s[q + k].toNat U hu2
        rw [← hn]
        clear hn
        obtain ⟨c, hcd⟩ : ∃ c : UInt8, c = s[q + k] := ⟨_, rfl⟩
        have hone := one_yes g s (q + k) wr hR hs hlt
        rw [← hcd] at hp1 hp2 hone
        have HC := Lib.hid hcd
        have HO := Lib.hid hone
        clear hcd hone
        by_cases hc : 128 ≤ c.toNat
        · go_wp2_with fail
          refine HO.out.mono ?_
          rintro e w1 ⟨rfl, hR1, hG1⟩
          go_wp2
          go_roundw
          case rel => exact ⟨k + 1, U * 128, by omega, by omega, hhi.step (by rw [HB.out, ← HC.out]; exact hc), unit_step hU, val_int (by rw [← HT.out, HC.out]), by go_num, by go_num, hR1, grown_trans hG hG1⟩
          case measure => simp [intOf]; omega
        · have hr := M.read_stop _ q k hhi hk5 (by rw [drop_len]; omega) (by rw [HB.out, ← HC.out]; omega)
          have HR := Lib.hid hr
          have hT2 : (n : Int) + (c.toNat : Int) % 128 * (U : Int) = (M.vl ((s.data.toList.drop q).take (k + 1)) : Nat) := by rw [← HT.out, HC.out]
          have HT2 := Lib.hid hT2
          have hc' : (c.toNat : Int) < 128 := by omega
          have hcz := M.canon_yes _ k hhi hk5 (by rw [drop_len]; omega) (by rw [HB.out, ← HC.out]; omega)
          have hcn := M.canon_no (s.data.toList.drop q) k (by rw [drop_len]; omega)
          have HCZ := Lib.hid hcz
          have HCN := Lib.hid hcn
          clear hr hT2 hc hcz hcn
          by_cases ht : 1000000000 < (n : Int) + (c.toNat : Int) % 128 * (U : Int)
          · go_wp2_with fail
            refine HO.out.mono ?_
            rintro e w1 ⟨rfl, hR1, hG1⟩
            have d0 := hR1.c0
            have d1 := hR1.c1
            have d2 := hR1.c2
            have f2 := hR1.fr 2
            go_wp2_with fail
            go_quiet (fail)
            go_wp2
            go_ret
            have hh : M.readNum s.data.toList q = (0, 0, false) := by
              have := HT2.out
              exact HR.out.trans (if_neg (by omega))
            exact rn_bad hh (grown_set (grown_drewN (grown_trans hG hG1) _) rfl _) ((hR1.drewN _).set2 true)
          · have hle : (n : Int) + (c.toNat : Int) % 128 * (U : Int) ≤ 1000000000 := by omega
            have hd : decide (1000000000 < (n : Int) + (c.toNat : Int) % 128 * (U : Int)) = false := by simp; omega
            obtain ⟨x, hx⟩ : ∃ x, x = q + k + 1 := ⟨_, rfl⟩
            have hx1 : (q : Int) ≤ (x : Int) := by omega
            have hx2 : (x : Int) ≤ (s.size : Int) := by omega
            have hx3 : (0 : Int) ≤ (q : Int) := by omega
            have HX := Lib.hid (cut_list s q (k + 1) x hx)
            rw [← hx] at HO HR
            clear hx ht
            by_cases hz : k = 0 ∨ ((s.data.toList.drop q).getD k 0).toNat ≠ 0
            · have hh : M.readNum s.data.toList q = (M.vl ((s.data.toList.drop q).take (k + 1)), x, true) := by
                have := HT2.out
                exact HR.out.trans (if_pos ⟨by omega, hz⟩)
              have HH := Lib.hid hh
              have hE : (M.numB (M.vl (List.take (k + 1) (List.drop q s.data.toList))) == (s.extract q x).toList) = true := by
                rw [HX.out, HCZ.out hz]; simp
              clear hz hh
              go_wp2_with fail
              refine HO.out.mono ?_
              rintro e w1 ⟨rfl, hR1, hG1⟩
              have d0 := hR1.c0
              have d1 := hR1.c1
              have d2 := hR1.c2
              have f2 := hR1.fr 2
              have hgl := hR1.lt
              go_wp2_with fail
              go_region_held3 (fun w' => w'.cell? ⟨g, 0, none⟩ = some (.string s) ∧ w'.cell? ⟨g, 1, none⟩ = some (.int .i64 (x : Int)) ∧ w'.cell? ⟨g, 2, none⟩ = some (.bool false))
                (first | go_keep | (go_split_ands; exact ⟨(hb2.cell (p := ⟨g, 0, none⟩) hgl).trans d0, (hb2.cell (p := ⟨g, 1, none⟩) hgl).trans d1, (hb2.cell (p := ⟨g, 2, none⟩) hgl).trans d2⟩))
                ((go_at_call 52; refine (l1NumB_int _ _ HT2.out _ (by have := HT2.out; omega)).mono ?_; rintro e w2 ⟨rfl, hb2⟩))
              go_wp2
              go_ret
              exact rn_good HH.out HT2.out (grown_below (grown_drew (grown_trans hG hG1)) hb2) (RAt.below (w := w1.drew) hR1 hb2 hgl)
            · have hh : M.readNum s.data.toList q = (0, 0, false) := HR.out.trans (if_neg (fun h => hz h.2))
              have HH := Lib.hid hh
              have hE : (M.numB (M.vl (List.take (k + 1) (List.drop q s.data.toList))) == (s.extract q x).toList) = false := by
                rw [HX.out]; simp; exact HCN.out hz _ (by have := HT2.out; omega)
              clear hz hh
              go_wp2_with fail
              refine HO.out.mono ?_
              rintro e w1 ⟨rfl, hR1, hG1⟩
              have d0 := hR1.c0
              have d1 := hR1.c1
              have d2 := hR1.c2
              have f2 := hR1.fr 2
              have hgl := hR1.lt
              go_wp2_with fail
              go_region_held3 (fun w' => w'.cell? ⟨g, 0, none⟩ = some (.string s) ∧ w'.cell? ⟨g, 1, none⟩ = some (.int .i64 (x : Int)) ∧ w'.cell? ⟨g, 2, none⟩ = some (.bool false))
                (first | go_keep | (go_split_ands; exact ⟨(hb2.cell (p := ⟨g, 0, none⟩) hgl).trans d0, (hb2.cell (p := ⟨g, 1, none⟩) hgl).trans d1, (hb2.cell (p := ⟨g, 2, none⟩) hgl).trans d2⟩))
                ((go_at_call 52; refine (l1NumB_int _ _ HT2.out _ (by have := HT2.out; omega)).mono ?_; rintro e w2 ⟨rfl, hb2⟩))
              have hR2 := RAt.below (w := w1.drew) hR1 hb2 hgl
              have f3 := hR2.fr 2
              go_wp2
              go_ret
              exact rn_bad HH.out (grown_set (grown_below (grown_drew (grown_trans hG hG1)) hb2) rfl _) (hR2.set2 true)
      · have hh : M.readNum s.data.toList q = (0, 0, false) := M.read_end _ q k hhi hk (by rw [drop_len]; omega) (.inr (by rw [drop_len]; omega))
        have HH := Lib.hid hh
        have hone := one_bad g s (q + k) false wr hR (.inr (by omega))
        have HO := Lib.hid hone
        clear hh hone
        go_wp2_with fail
        refine HO.out.mono ?_
        rintro e w1 ⟨rfl, hR1, hG1⟩
        have d0 := hR1.c0
        have d1 := hR1.c1
        have d2 := hR1.c2
        have f2 := hR1.fr 2
        go_wp2_with fail
        go_quiet (fail)
        go_wp2
        go_ret
        exact rn_bad HH.out (grown_set (grown_drewN (grown_trans hG hG1) _) rfl _) ((hR1.drewN _).set2 true)
    · have hk6 : 5 ≤ k := by omega
      obtain rfl : k = 5 := by omega
      have hh : M.readNum s.data.toList q = (0, 0, false) := M.read_end _ q 5 hhi (by omega) (by rw [drop_len]; omega) (.inl rfl)
      have HH := Lib.hid hh
      have HCH := Lib.hid (M.canon_high (s.data.toList.drop q) 5 hhi (by omega) (by rw [drop_len]; omega))
      obtain ⟨n, hn⟩ : ∃ n, n = M.vl ((s.data.toList.drop q).take 5) := ⟨_, rfl⟩
      rw [← hn]
      clear hh hn
      by_cases ht : 1000000000 < n
      · have d0 := hR.c0
        have d1 := hR.c1
        have d2 := hR.c2
        have f2 := hR.fr 2
        have hd : decide (1000000000 < (n : Int)) = true := by simp; omega
        go_wp2_with fail
        go_quiet (fail)
        go_wp2
        go_ret
        exact rn_bad HH.out (grown_set (grown_drewN hG _) rfl _) ((hR.drewN _).set2 true)
      · obtain ⟨x, hx⟩ : ∃ x, x = q + 5 := ⟨_, rfl⟩
        have hx1 : (q : Int) ≤ (x : Int) := by omega
        have hx2 : (x : Int) ≤ (s.size : Int) := by omega
        have hx3 : (0 : Int) ≤ (q : Int) := by omega
        have HX := Lib.hid (cut_list s q 5 x hx)
        rw [← hx] at hR
        have hd : decide (1000000000 < (n : Int)) = false := by simp; omega
        have hle : n ≤ 1000000000 := by omega
        have hE : (M.numB n == (s.extract q x).toList) = false := by
          rw [HX.out]; simp; exact HCH.out n hle
        have d0 := hR.c0
        have d1 := hR.c1
        have d2 := hR.c2
        have f2 := hR.fr 2
        have hgl := hR.lt
        clear hx ht
        go_wp2_with fail
        go_region_held3 (fun w' => w'.cell? ⟨g, 0, none⟩ = some (.string s) ∧ w'.cell? ⟨g, 1, none⟩ = some (.int .i64 (x : Int)) ∧ w'.cell? ⟨g, 2, none⟩ = some (.bool false))
          (first | go_keep | (go_split_ands; exact ⟨(hb2.cell (p := ⟨g, 0, none⟩) hgl).trans d0, (hb2.cell (p := ⟨g, 1, none⟩) hgl).trans d1, (hb2.cell (p := ⟨g, 2, none⟩) hgl).trans d2⟩))
          ((go_at_call 52; refine (l1NumB_any n _ (by omega)).mono ?_; rintro e w2 ⟨rfl, hb2⟩))
        have hR2 := RAt.below (w := wr.drew) hR hb2 hgl
        have f3 := hR2.fr 2
        go_wp2
        go_ret
        exact rn_bad HH.out (grown_set (grown_below (grown_drew hG) hb2) rfl _) (hR2.set2 true)
end Go.Proofs.Ytodfefaknclemaa
