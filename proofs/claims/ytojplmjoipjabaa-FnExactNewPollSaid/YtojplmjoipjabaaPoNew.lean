/-
  A poll as an answer; NewPoll of the program.
-/
import Derived.Test.YtojplmjoipjabaaPoRep
import Derived.Test.YtojplmjoipjabaaPoOwn
import Derived.Test.YtojplmjoipjabaaPoNw
namespace Go.Proofs.Ytojplmjoipjabaa.Po
open Go.RowKit Nt
set_option linter.unusedVariables false
set_option linter.unusedSimpArgs false

/-- A poll, or none, as an answer: its slices in blocks of the call's own. -/
def PAPost (a : List ((Bool × Int × Int × Bool) × List Int) × Int × List Int × Int × List (Int × Int × Int × ByteArray) × List (Int × Int) × Bool) (w : World) (e : Ending) (w' : World) : Prop :=
  ∃ A c gs A1 c1 A2 c2 A3 c3, e = .returned (.tuple #[.agg #[.slice A a.1.length c, .int .i64 a.2.1, .slice A1 a.2.2.1.length c1, .int .i64 a.2.2.2.1, .slice A2 a.2.2.2.2.1.length c2, .slice A3 a.2.2.2.2.2.1.length c3], .bool a.2.2.2.2.2.2]) ∧ gs.map vdat = a.1 ∧ OwnP w' w.heap.size w'.heap.size A c gs A1 c1 a.2.2.1 A2 c2 a.2.2.2.2.1 A3 c3 a.2.2.2.2.2.1 ∧ Below w.heap.size w w'
def noPA : List ((Bool × Int × Int × Bool) × List Int) × Int × List Int × Int × List (Int × Int × Int × ByteArray) × List (Int × Int) × Bool := ([], 0, [], 0, [], [], false)
theorem noP_post {w w' : World} (hb : Below w.heap.size w w') : PAPost noPA w (.returned (.tuple #[.agg #[.slice none 0 0, .int .i64 0, .slice none 0 0, .int .i64 0, .slice none 0 0, .slice none 0 0], .bool false])) w' :=
  ⟨none, 0, [], none, 0, none, 0, none, 0, rfl, rfl, ⟨⟨.inl ⟨rfl, rfl, rfl⟩, YesOwn.nil⟩, .inl ⟨rfl, rfl, rfl⟩, .inl ⟨rfl, rfl, rfl⟩, .inl ⟨rfl, rfl, rfl⟩, by simp⟩, hb⟩
theorem put6_cell {w : World} {g b o : Nat} {p q r s t u : Value} (hne : b ≠ g) : (put6 w g p q r s t u).cell? ⟨b, o, none⟩ = w.cell? ⟨b, o, none⟩ := by
  simp [put6, World.cell?, World.setCell, Array.getElem?_modify, Ne.symm hne]
theorem chain6_cell {w : World} {g b o : Nat} {p q r s t u : Value} (hne : b ≠ g) : ((((((w.setCell ⟨g, 0, none⟩ p).setCell ⟨g, 1, none⟩ q).setCell ⟨g, 2, none⟩ r).setCell ⟨g, 3, none⟩ s).setCell ⟨g, 4, none⟩ t).setCell ⟨g, 5, none⟩ u).cell? ⟨b, o, none⟩ = w.cell? ⟨b, o, none⟩ := put6_cell hne
def newB (is : List Int) (far : Int) : Bool := netB 0 is far [] && sizeB is.length
def newPA (is : List Int) (far : Int) : List ((Bool × Int × Int × Bool) × List Int) × Int × List Int × Int × List (Int × Int × Int × ByteArray) × List (Int × Int) × Bool :=
  if newB is far = true then (List.replicate is.length (vdat vt0), 0, is, far, [], [], true) else noPA
theorem newPA_no {is : List Int} {far : Int} (h : newB is far = false) : newPA is far = noPA := by unfold newPA; rw [h]; rfl
theorem newPA_yes {is : List Int} {far : Int} (h : newB is far = true) : newPA is far = (List.replicate is.length (vdat vt0), 0, is, far, [], [], true) := by unfold newPA; rw [h]; rfl

set_option maxRecDepth 100000 in
set_option maxHeartbeats 8000000 in
theorem implNewPoll_any (A : Option Addr) (n c : Nat) (is : List Int) (far : Int) (B : Nat) (w : World) (hn : is.length = n) (h : IntsB w B A is) (hB : B ≤ w.heap.size) (hl : n ≤ 1048576) :
    Calls Try.prog 17 #[.slice A n c, .int .i64 far] w (PAPost (newPA is far) w) := by
  have hb0 := below1 w (.cells #[.slice none 0 0, .int .i64 0, .slice none 0 0, .int .i64 0, .slice none 0 0, .slice none 0 0] 38)
  have hr0 := heap_alloc_new w (.cells #[.slice none 0 0, .int .i64 0, .slice none 0 0, .int .i64 0, .slice none 0 0, .slice none 0 0] 38)
  have HN := Lib.hid (implNewNet_any A n c is far B _ hn (h.below (hb0.mono hB)) (Nat.le_trans hB hb0.size) hl)
  have HB0 := Lib.hid hb0
  have HR0 := Lib.hid hr0
  have HLN := Lib.hid hn
  clear h hb0 hr0
  cases g1 : netB 0 is far [] with
  | false =>
    rw [newPA_no (show newB is far = false by unfold newB; rw [g1]; rfl)]
    rw [newA_no g1] at HN
    unfold NAPost noA at HN
    simp only at HN
    clear g1
    go_enter Try.func17, Try.ntmps17
    go_wp2_with fail
    refine HN.out.mono ?_
    rintro e w1 ⟨A1, c1, A2, c2, rfl, hoi, hol, ha1⟩
    have hx := below1 w1 (.cells #[.int .i64 0, .slice A1 0 c1, .int .i64 0, .slice A2 0 c2] 35)
    have hr1 := (hx.block w.heap.size (Nat.lt_of_lt_of_le (lt_blk HR0.out) ha1.size)).trans ((ha1.block w.heap.size (lt_blk HR0.out)).trans HR0.out)
    have r0 := cell_of_row _ _ 0 _ 38 (0, 0) hr1
    have r1 := cell_of_row _ _ 1 _ 38 (0, 0) hr1
    have r2 := cell_of_row _ _ 2 _ 38 (0, 0) hr1
    have r3 := cell_of_row _ _ 3 _ 38 (0, 0) hr1
    have r4 := cell_of_row _ _ 4 _ 38 (0, 0) hr1
    have r5 := cell_of_row _ _ 5 _ 38 (0, 0) hr1
    have f0 := free_blk hr1 0
    have f1 := free_blk hr1 1
    have f2 := free_blk hr1 2
    have f3 := free_blk hr1 3
    have f4 := free_blk hr1 4
    have f5 := free_blk hr1 5
    have HB1 := Lib.hid (HB0.out.trans ((ha1.trans (hx.mono ha1.size)).mono HB0.out.size))
    clear ha1 hx hr1 hoi hol HN
    simp only [List.length_nil]
    go_wp2
    exact bodyPost_ret (v := .tuple #[.agg #[.slice none 0 0, .int .i64 0, .slice none 0 0, .int .i64 0, .slice none 0 0, .slice none 0 0], .bool false]) (by simp [results, Try.results17, go_sem, r0, r1, r2, r3, r4, r5, f0, f1, f2, f3, f4, f5]) rfl (noP_post (bel_put6 HB1.out (Nat.le_refl _)))
  | true =>
    rw [newA_yes g1] at HN
    unfold NAPost at HN
    simp only [hn] at HN
    have HSZ := Lib.hid (fun W => isSize_any n W hl)
    have hrw : newB is far = sizeB n := by unfold newB; rw [g1, hn]; rfl
    clear g1
    cases hsz : sizeB n with
    | false =>
      rw [newPA_no (hrw.trans hsz)]
      rw [hsz] at HSZ
      clear hsz hrw
      go_enter Try.func17, Try.ntmps17
      go_wp2_with fail
      refine HN.out.mono ?_
      rintro e w1 ⟨A1, c1, A2, c2, rfl, hoi, hol, ha1⟩
      have hx := below1 w1 (.cells #[.int .i64 0, .slice A1 n c1, .int .i64 far, .slice A2 0 c2] 35)
      have hr1 := (hx.block w.heap.size (Nat.lt_of_lt_of_le (lt_blk HR0.out) ha1.size)).trans ((ha1.block w.heap.size (lt_blk HR0.out)).trans HR0.out)
      have r0 := cell_of_row _ _ 0 _ 38 (0, 0) hr1
      have r1 := cell_of_row _ _ 1 _ 38 (0, 0) hr1
      have r2 := cell_of_row _ _ 2 _ 38 (0, 0) hr1
      have r3 := cell_of_row _ _ 3 _ 38 (0, 0) hr1
      have r4 := cell_of_row _ _ 4 _ 38 (0, 0) hr1
      have r5 := cell_of_row _ _ 5 _ 38 (0, 0) hr1
      have f0 := free_blk hr1 0
      have f1 := free_blk hr1 1
      have f2 := free_blk hr1 2
      have f3 := free_blk hr1 3
      have f4 := free_blk hr1 4
      have f5 := free_blk hr1 5
      have HB1 := Lib.hid (HB0.out.trans ((ha1.trans (hx.mono ha1.size)).mono HB0.out.size))
      clear ha1 hx hr1 hoi hol HN
      simp only [List.length_nil]
      go_wp2_with fail
      refine (HSZ.out _).mono ?_
      rintro e w2 ⟨rfl, rfl⟩
      go_wp2
      exact bodyPost_ret (v := .tuple #[.agg #[.slice none 0 0, .int .i64 0, .slice none 0 0, .int .i64 0, .slice none 0 0, .slice none 0 0], .bool false]) (by simp [results, Try.results17, go_sem, r0, r1, r2, r3, r4, r5, f0, f1, f2, f3, f4, f5]) rfl (noP_post (bel_put6 HB1.out (Nat.le_refl _)))
    | true =>
      rw [newPA_yes (hrw.trans hsz)]
      rw [hsz] at HSZ
      clear hrw
      have hN : n = 3 ∨ n = 5 := by simpa [sizeB] using hsz
      clear hsz
      go_enter Try.func17, Try.ntmps17
      go_wp2_with fail
      refine HN.out.mono ?_
      rintro e w1 ⟨A1, c1, A2, c2, rfl, hoi, hol, ha1⟩
      have hx := below1 w1 (.cells #[.int .i64 0, .slice A1 n c1, .int .i64 far, .slice A2 0 c2] 35)
      have hkx := heap_alloc_new w1 (.cells #[.int .i64 0, .slice A1 n c1, .int .i64 far, .slice A2 0 c2] 35)
      have hr1 := (hx.block w.heap.size (Nat.lt_of_lt_of_le (lt_blk HR0.out) ha1.size)).trans ((ha1.block w.heap.size (lt_blk HR0.out)).trans HR0.out)
      have HB1 := Lib.hid (HB0.out.trans ((ha1.trans (hx.mono ha1.size)).mono HB0.out.size))
      have HI1 := Lib.hid ((hoi.since hx (Nat.le_refl _)).wider (Nat.le_refl _) hx.size)
      have HL1 := Lib.hid ((hol.since hx (Nat.le_refl _)).wider (Nat.le_refl _) hx.size)
      have hgr : w.heap.size < w1.heap.size := Nat.lt_of_lt_of_le (lt_blk HR0.out) ha1.size
      obtain ⟨gx, hgx⟩ : ∃ gx, gx = w1.heap.size := ⟨_, rfl⟩
      simp only [List.length_nil]
      go_upto_region 4 with (first | ((refine (HSZ.out _).mono ?_); rintro e w2 ⟨rfl, rfl⟩) | fail)
      obtain ⟨W1, hW1⟩ : ∃ W1, W1 = w1.alloc (.cells #[.int .i64 0, .slice A1 n c1, .int .i64 far, .slice A2 0 c2] 35) := ⟨_, rfl⟩
      rw [← hW1] at hr1 hkx HB1 HI1 HL1 ⊢
      rw [← hgx] at hkx ⊢
      have hglx := lt_blk hkx
      have hglr := lt_blk hr1
      have hgne : gx ≠ w.heap.size := by omega
      have x0 := cell_of_row _ _ 0 _ 35 (0, 0) hkx
      have x1 := cell_of_row _ _ 1 _ 35 (0, 0) hkx
      have x2 := cell_of_row _ _ 2 _ 35 (0, 0) hkx
      have x3 := cell_of_row _ _ 3 _ 35 (0, 0) hkx
      have hd0 : Below W1.heap.size W1 W1.drew := (Below.refl _ _).drew
      have ha0 : Below W1.heap.size W1 (W1.alloc (.cells #[.bool true, .int .i64 0, .int .i64 (-1), .slice none 0 0, .bool false] 81)).drew := (below1 W1 (.cells #[.bool true, .int .i64 0, .int .i64 (-1), .slice none 0 0, .bool false] 81)).drew
      have HREP := Lib.hid (repeat_any W1.heap.size n hN (W1.alloc (.cells #[.bool true, .int .i64 0, .int .i64 (-1), .slice none 0 0, .bool false] 81)).drew (heap_alloc_new W1 (.cells #[.bool true, .int .i64 0, .int .i64 (-1), .slice none 0 0, .bool false] 81)))
      have HS0 : W1.drew.cell? ⟨gx, 0, none⟩ = some (.int .i64 0) ∧ W1.drew.cell? ⟨gx, 1, none⟩ = some (.slice A1 n c1) ∧ W1.drew.cell? ⟨gx, 2, none⟩ = some (.int .i64 far) ∧ W1.drew.cell? ⟨gx, 3, none⟩ = some (.slice A2 0 c2) := ⟨x0, x1, x2, x3⟩
      have HS1 : (W1.alloc (.cells #[.bool true, .int .i64 0, .int .i64 (-1), .slice none 0 0, .bool false] 81)).drew.cell? ⟨gx, 0, none⟩ = some (.int .i64 0) ∧ (W1.alloc (.cells #[.bool true, .int .i64 0, .int .i64 (-1), .slice none 0 0, .bool false] 81)).drew.cell? ⟨gx, 1, none⟩ = some (.slice A1 n c1) ∧ (W1.alloc (.cells #[.bool true, .int .i64 0, .int .i64 (-1), .slice none 0 0, .bool false] 81)).drew.cell? ⟨gx, 2, none⟩ = some (.int .i64 far) ∧ (W1.alloc (.cells #[.bool true, .int .i64 0, .int .i64 (-1), .slice none 0 0, .bool false] 81)).drew.cell? ⟨gx, 3, none⟩ = some (.slice A2 0 c2) := ⟨kept2 ha0 x0 hglx, kept2 ha0 x1 hglx, kept2 ha0 x2 hglx, kept2 ha0 x3 hglx⟩
      have HR1 := Lib.hid hr1
      have HKX := Lib.hid hkx
      clear ha1 hx hoi hol HN HSZ hW1 hgx hr1 hkx HR0 HB0
      go_region_held3 (fun w' => w'.cell? ⟨gx, 0, none⟩ = some (.int .i64 0) ∧ w'.cell? ⟨gx, 1, none⟩ = some (.slice A1 n c1) ∧ w'.cell? ⟨gx, 2, none⟩ = some (.int .i64 far) ∧ w'.cell? ⟨gx, 3, none⟩ = some (.slice A2 0 c2))
        (first | with_reducible exact HS0 | with_reducible exact HS1 | with_reducible exact HS5 | with_reducible exact ⟨(chain6_cell hgne).trans HS5.1, (chain6_cell hgne).trans HS5.2.1, (chain6_cell hgne).trans HS5.2.2.1, (chain6_cell hgne).trans HS5.2.2.2⟩ | fail)
        (first | (go_at_call 58; (with_reducible refine HREP.out.mono ?_); rintro e w5 ⟨g5, rfl, hov, hb5⟩; have hb6 : Below W1.heap.size W1 w5 := ha0.trans (hb5.mono ha0.size); have HS5 : w5.cell? ⟨gx, 0, none⟩ = some (.int .i64 0) ∧ w5.cell? ⟨gx, 1, none⟩ = some (.slice A1 n c1) ∧ w5.cell? ⟨gx, 2, none⟩ = some (.int .i64 far) ∧ w5.cell? ⟨gx, 3, none⟩ = some (.slice A2 0 c2) := ⟨kept2 hb6 x0 hglx, kept2 hb6 x1 hglx, kept2 hb6 x2 hglx, kept2 hb6 x3 hglx⟩; have hr5 := (hb6.block w.heap.size hglr).trans HR1.out; have r0 := cell_of_row _ _ 0 _ 38 (0, 0) hr5; have r1 := cell_of_row _ _ 1 _ 38 (0, 0) hr5; have r2 := cell_of_row _ _ 2 _ 38 (0, 0) hr5; have r3 := cell_of_row _ _ 3 _ 38 (0, 0) hr5; have r4 := cell_of_row _ _ 4 _ 38 (0, 0) hr5; have r5 := cell_of_row _ _ 5 _ 38 (0, 0) hr5; have f0 := free_blk hr5 0; have f1 := free_blk hr5 1; have f2 := free_blk hr5 2; have f3 := free_blk hr5 3; have f4 := free_blk hr5 4; have f5 := free_blk hr5 5) | fail)
      go_wp2
      exact bodyPost_ret (v := .tuple #[.agg #[.slice (some ⟨g5, 0, none⟩) n n, .int .i64 0, .slice A1 n c1, .int .i64 far, .slice A2 0 c2, .slice none 0 0], .bool true]) (by simp [results, Try.results17, go_sem, r0, r1, r2, r3, r4, r5, f0, f1, f2, f3, f4, f5]) rfl (by
        have hw5 := hb6.size
        have hws : (w.alloc (.cells #[.slice none 0 0, .int .i64 0, .slice none 0 0, .int .i64 0, .slice none 0 0, .slice none 0 0] 38)).heap.size = w.heap.size + 1 := by simp
        have hlo : w.heap.size + 1 ≤ W1.heap.size := by omega
        have HOP : OwnP w5 (w.heap.size + 1) w5.heap.size (some ⟨g5, 0, none⟩) n (List.replicate n vt0) A1 c1 is A2 c2 [] none 0 [] :=
          ⟨hov.wider (by simpa using Nat.le_succ_of_le hlo) (Nat.le_refl _), (HI1.out.since hb6 (Nat.le_refl _)).wider (by simp) hw5, (HL1.out.since hb6 (Nat.le_refl _)).wider (by simp) hw5, .inl ⟨rfl, rfl, rfl⟩, by
            intro h hh x y hx
            rw [List.eq_of_mem_replicate hh] at hx
            simp [vt0] at hx⟩
        have HP : OwnP (put6 w5 w.heap.size (.slice (some ⟨g5, 0, none⟩) n n) (.int .i64 0) (.slice A1 n c1) (.int .i64 far) (.slice A2 0 c2) (.slice none 0 0)) w.heap.size (put6 w5 w.heap.size (.slice (some ⟨g5, 0, none⟩) n n) (.int .i64 0) (.slice A1 n c1) (.int .i64 far) (.slice A2 0 c2) (.slice none 0 0)).heap.size (some ⟨g5, 0, none⟩) n (List.replicate n vt0) A1 c1 is A2 c2 [] none 0 [] :=
          (own_put6 HOP (Nat.lt_succ_self _)).wider (Nat.le_succ _) (Nat.le_of_eq put6_size.symm)
        refine ⟨some ⟨g5, 0, none⟩, n, List.replicate n vt0, A1, c1, A2, c2, none, 0, ?_, ?_, HP, ?_⟩
        · simp [HLN.out]
        · rw [HLN.out]; simp
        · exact bel_put6 (HB1.out.trans (hb6.mono HB1.out.size)) (Nat.le_refl _))
end Go.Proofs.Ytojplmjoipjabaa.Po
