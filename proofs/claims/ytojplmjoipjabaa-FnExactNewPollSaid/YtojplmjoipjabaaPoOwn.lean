/-
  A poll that a call owns; the laws' toPoll.
-/
import Derived.Test.YtojplmjoipjabaaPoTo
import Derived.Test.YtojplmjoipjabaaPoGood
import Derived.Test.YtojplmjoipjabaaNtOwn2
namespace Go.Proofs.Ytojplmjoipjabaa.Po
open Go.RowKit Nt
set_option linter.unusedVariables false
set_option linter.unusedSimpArgs false

def OwnP (w : World) (lo hi : Nat) (A : Option Addr) (c : Nat) (gs : List ((Bool × Int × Int × Bool) × Option Addr × Nat × List Int)) (A1 : Option Addr) (c1 : Nat) (is : List Int) (A2 : Option Addr) (c2 : Nat) (ls : List (Int × Int × Int × ByteArray)) (A3 : Option Addr) (c3 : Nat) (ws : List (Int × Int)) : Prop :=
  OwnV w lo hi A c gs ∧ OwnI w lo hi A1 c1 is ∧ OwnL w lo hi A2 c2 ls ∧ OwnN w lo hi A3 c3 ws ∧ ∀ h ∈ gs, ∀ x y, h.2.1 = some x → A1 = some y → x.block ≠ y.block
section
variable {w w' : World} {lo hi lo' hi' c c1 c2 c3 : Nat} {A A1 A2 A3 : Option Addr} {gs : List ((Bool × Int × Int × Bool) × Option Addr × Nat × List Int)} {is : List Int} {ls : List (Int × Int × Int × ByteArray)} {ws : List (Int × Int)}
theorem OwnP.below (h : OwnP w lo hi A c gs A1 c1 is A2 c2 ls A3 c3 ws) (hb : Below hi w w') : OwnP w' lo hi A c gs A1 c1 is A2 c2 ls A3 c3 ws := ⟨h.1.below hb, h.2.1.below hb, h.2.2.1.below hb, h.2.2.2.1.below hb, h.2.2.2.2⟩
theorem OwnP.since (h : OwnP w lo hi A c gs A1 c1 is A2 c2 ls A3 c3 ws) (hb : Below w.heap.size w w') (hh : hi ≤ w.heap.size) : OwnP w' lo hi A c gs A1 c1 is A2 c2 ls A3 c3 ws := h.below (hb.mono hh)
theorem OwnP.wider (h : OwnP w lo hi A c gs A1 c1 is A2 c2 ls A3 c3 ws) (h1 : lo' ≤ lo) (h2 : hi ≤ hi') : OwnP w lo' hi' A c gs A1 c1 is A2 c2 ls A3 c3 ws := ⟨h.1.wider h1 h2, h.2.1.wider h1 h2, h.2.2.1.wider h1 h2, h.2.2.2.1.wider h1 h2, h.2.2.2.2⟩
theorem OwnP.low (h : OwnP w lo hi A c gs A1 c1 is A2 c2 ls A3 c3 ws) {p : Addr} (hp : p.block < lo) (u : Value) : OwnP (w.setCell p u) lo hi A c gs A1 c1 is A2 c2 ls A3 c3 ws :=
  ⟨h.1.low hp u, h.2.1.low hp u, h.2.2.1.low hp u, h.2.2.2.1.low hp u, h.2.2.2.2⟩
theorem OwnP.mid (h : OwnP w lo hi A c gs A1 c1 is A2 c2 ls A3 c3 ws) (hm : Mid lo' hi' w w') (hd : hi' ≤ lo ∨ hi ≤ lo') : OwnP w' lo hi A c gs A1 c1 is A2 c2 ls A3 c3 ws := ⟨h.1.mid hm hd, h.2.1.mid hm hd, h.2.2.1.mid hm hd, h.2.2.2.1.mid hm hd, h.2.2.2.2⟩
theorem OwnP.reads {n n1 n2 n3 : Nat} (h : OwnP w lo hi A c gs A1 c1 is A2 c2 ls A3 c3 ws) (e : gs.length = n) (e1 : is.length = n1) (e2 : ls.length = n2) (e3 : ws.length = n3) : PollB w hi A n gs A1 n1 is A2 n2 ls A3 n3 ws := ⟨e, e1, e2, e3, h.1.vots, h.2.1.ints, h.2.2.1.lets, h.2.2.2.1.wons⟩
end
/-- A poll stored: six cells. -/
def put6 (w : World) (g : Nat) (a b c d e f : Value) : World := ((((((w.setCell ⟨g, 0, none⟩ a).setCell ⟨g, 1, none⟩ b).setCell ⟨g, 2, none⟩ c).setCell ⟨g, 3, none⟩ d).setCell ⟨g, 4, none⟩ e).setCell ⟨g, 5, none⟩ f)
theorem put6_size {w : World} {g : Nat} {a b c d e f : Value} : (put6 w g a b c d e f).heap.size = w.heap.size := by simp [put6, World.setCell]
theorem bel_put6 {w w' : World} {B g : Nat} {a b c d e f : Value} (h : Below B w w') (hg : B ≤ g) : Below B w (put6 w' g a b c d e f) :=
  ((((((h.setCell (p := ⟨g, 0, none⟩) hg a).setCell (p := ⟨g, 1, none⟩) hg b).setCell (p := ⟨g, 2, none⟩) hg c).setCell (p := ⟨g, 3, none⟩) hg d).setCell (p := ⟨g, 4, none⟩) hg e).setCell (p := ⟨g, 5, none⟩) hg f)
theorem own_put6 {w : World} {lo hi cc c1 c2 c3 g : Nat} {A A1 A2 A3 : Option Addr} {gs : List ((Bool × Int × Int × Bool) × Option Addr × Nat × List Int)} {is : List Int} {ls : List (Int × Int × Int × ByteArray)} {ws : List (Int × Int)} {a b c d e f : Value} (h : OwnP w lo hi A cc gs A1 c1 is A2 c2 ls A3 c3 ws) (hg : g < lo) : OwnP (put6 w g a b c d e f) lo hi A cc gs A1 c1 is A2 c2 ls A3 c3 ws :=
  (((((h.low (p := ⟨g, 0, none⟩) hg a).low (p := ⟨g, 1, none⟩) hg b).low (p := ⟨g, 2, none⟩) hg c).low (p := ⟨g, 3, none⟩) hg d).low (p := ⟨g, 4, none⟩) hg e).low (p := ⟨g, 5, none⟩) hg f

/-- A poll that a call hands back: its slices in blocks of its own. -/
def PollV (vs : List ((Bool × Int × Int × Bool) × List Int)) (now : Int) (is : List Int) (far : Int) (ls : List (Int × Int × Int × ByteArray)) (ws : List (Int × Int)) (n n1 n2 n3 : Nat) (w : World) (e : Ending) (w' : World) : Prop :=
  ∃ A c gs A1 c1 A2 c2 A3 c3, e = .returned (.agg #[.slice A n c, .int .i64 now, .slice A1 n1 c1, .int .i64 far, .slice A2 n2 c2, .slice A3 n3 c3]) ∧ gs.map vdat = vs ∧ OwnP w' w.heap.size w'.heap.size A c gs A1 c1 is A2 c2 ls A3 c3 ws ∧ Below w.heap.size w w'

set_option maxRecDepth 100000 in
set_option maxHeartbeats 4000000 in
theorem toPoll_any (A A1 A2 A3 : Option Addr) (n c n1 c1 n2 c2 n3 c3 : Nat) (now far : Int) (hs : List ((Bool × Int × Int × Bool) × Option Addr × Nat × List Int)) (is : List Int) (ls : List (Int × Int × Int × ByteArray)) (ws : List (Int × Int)) (B : Nat) (w : World)
    (h : PollB w B A n hs A1 n1 is A2 n2 ls A3 n3 ws) (hB : B ≤ w.heap.size) (hs' : PollS hs is ls ws) (hn2 : n2 ≤ 1048576) :
    Calls Try.prog 12 #[.agg #[.slice A n c, .int .i64 now, .slice A1 n1 c1, .int .i64 far, .slice A2 n2 c2, .slice A3 n3 c3]] w (PollV (hs.map vdat) now is far ls ws n n1 n2 n3 w) := by
  obtain ⟨hn, hn1, hl2, hn3, hv, hi, hl, hw⟩ := h
  obtain ⟨s1, s2, s3, s4⟩ := hs'
  have HV := Lib.hid (fun W (hW : Below w.heap.size w W) => toVoterS_any A n c hs B W hn (hv.below (hW.mono hB)) (Nat.le_trans hB hW.size) s1)
  have HN := Lib.hid (fun W (hW : Below w.heap.size w W) => toNet_any now far A1 A2 n1 c1 n2 c2 is ls B W hn1 hl2 (hi.below (hW.mono hB)) (hl.below (hW.mono hB)) (Nat.le_trans hB hW.size) (by omega) hn2)
  have HW := Lib.hid (fun W (hW : Below w.heap.size w W) => toWonS_any A3 n3 c3 ws B W hn3 (hw.below (hW.mono hB)) (Nat.le_trans hB hW.size) (by omega))
  unfold NetV at HN
  simp only [hn1, hl2] at HN
  have hb0 := below3 w (.cells #[.slice A n c, .int .i64 now, .slice A1 n1 c1, .int .i64 far, .slice A2 n2 c2, .slice A3 n3 c3] 29) (.cells #[.slice none 0 0, .int .i64 0, .slice none 0 0, .int .i64 0, .slice none 0 0, .slice none 0 0] 38) (.cells #[.slice none 0 0, .int .i64 0, .slice none 0 0, .int .i64 0, .slice none 0 0, .slice none 0 0] 38)
  clear hv hi hl hw s1 s2 s3 s4 hn hn1 hl2 hn3
  go_enter Try.func12, Try.ntmps12
  go_wp2_with fail
  refine (HV.out _ hb0).mono ?_
  rintro e w1 ⟨g1, gs, rfl, hd, ho1, hb1⟩
  have hz := hb1.size
  simp only [World.size_alloc] at hz
  have hA := (hb1.block w.heap.size (by simp <;> omega)).trans (((below2 (w.alloc (.cells #[.slice A n c, .int .i64 now, .slice A1 n1 c1, .int .i64 far, .slice A2 n2 c2, .slice A3 n3 c3] 29)) (.cells #[.slice none 0 0, .int .i64 0, .slice none 0 0, .int .i64 0, .slice none 0 0, .slice none 0 0] 38) (.cells #[.slice none 0 0, .int .i64 0, .slice none 0 0, .int .i64 0, .slice none 0 0, .slice none 0 0] 38)).block w.heap.size (by simp)).trans (heap_alloc_new w (.cells #[.slice A n c, .int .i64 now, .slice A1 n1 c1, .int .i64 far, .slice A2 n2 c2, .slice A3 n3 c3] 29)))
  have hR := (hb1.block (w.heap.size + 1) (by simp <;> omega)).trans (((below1 ((w.alloc (.cells #[.slice A n c, .int .i64 now, .slice A1 n1 c1, .int .i64 far, .slice A2 n2 c2, .slice A3 n3 c3] 29)).alloc (.cells #[.slice none 0 0, .int .i64 0, .slice none 0 0, .int .i64 0, .slice none 0 0, .slice none 0 0] 38)) (.cells #[.slice none 0 0, .int .i64 0, .slice none 0 0, .int .i64 0, .slice none 0 0, .slice none 0 0] 38)).block (w.heap.size + 1) (by simp)).trans (alloc_snd w (.cells #[.slice A n c, .int .i64 now, .slice A1 n1 c1, .int .i64 far, .slice A2 n2 c2, .slice A3 n3 c3] 29) (.cells #[.slice none 0 0, .int .i64 0, .slice none 0 0, .int .i64 0, .slice none 0 0, .slice none 0 0] 38)))
  have hO := (hb1.block (w.heap.size + 1 + 1) (by simp)).trans (show (((w.alloc (.cells #[.slice A n c, .int .i64 now, .slice A1 n1 c1, .int .i64 far, .slice A2 n2 c2, .slice A3 n3 c3] 29)).alloc (.cells #[.slice none 0 0, .int .i64 0, .slice none 0 0, .int .i64 0, .slice none 0 0, .slice none 0 0] 38)).alloc (.cells #[.slice none 0 0, .int .i64 0, .slice none 0 0, .int .i64 0, .slice none 0 0, .slice none 0 0] 38)).heap[w.heap.size + 1 + 1]? = some (.cells #[.slice none 0 0, .int .i64 0, .slice none 0 0, .int .i64 0, .slice none 0 0, .slice none 0 0] 38 (0, 0)) by
    have := heap_alloc_new ((w.alloc (.cells #[.slice A n c, .int .i64 now, .slice A1 n1 c1, .int .i64 far, .slice A2 n2 c2, .slice A3 n3 c3] 29)).alloc (.cells #[.slice none 0 0, .int .i64 0, .slice none 0 0, .int .i64 0, .slice none 0 0, .slice none 0 0] 38)) (.cells #[.slice none 0 0, .int .i64 0, .slice none 0 0, .int .i64 0, .slice none 0 0, .slice none 0 0] 38)
    simpa using this)
  have HB1 := Lib.hid (hb0.trans (hb1.mono hb0.size))
  have a1 := cell_of_row _ _ 1 _ 29 (0, 0) hA
  have a2 := cell_of_row _ _ 2 _ 29 (0, 0) hA
  have a3 := cell_of_row _ _ 3 _ 29 (0, 0) hA
  have a4 := cell_of_row _ _ 4 _ 29 (0, 0) hA
  have z0 := cell_of_row _ _ 0 _ 38 (0, 0) hO
  have f0 := free_blk hO 0
  have HO1 := Lib.hid (ho1.wider (lo' := w.heap.size + 1 + 1 + 1) (hi' := w1.heap.size) (by simp) (Nat.le_refl _))
  have HA := Lib.hid hA
  have HR := Lib.hid hR
  have HO := Lib.hid hO
  have HDD := Lib.hid hd
  simp only [List.getElem?_toArray, List.getElem?_cons_zero, List.getElem?_cons_succ] at a1 a2 a3 a4 z0
  have hbs := HB1.out.setCell (p := ⟨w.heap.size + 1 + 1, 0, none⟩) (show w.heap.size ≤ w.heap.size + 1 + 1 by omega) (.slice (some ⟨g1, 0, none⟩) n n)
  clear hb0 hb1 ho1 hA hR hO hd HV
  go_wp2_with fail
  refine (HN.out _ hbs).mono ?_
  rintro e w2 ⟨E1, d1, E2, d2, rfl, ho2, ho3, hb3⟩
  have hy := hb3.size
  simp only [World.size_setCell] at hy
  have hA2 := (hb3.block w.heap.size (by simp [World.setCell] <;> omega)).trans ((Below.heap_setCell _ _ _ _ (by simp <;> omega)).trans HA.out)
  have hR2 := (hb3.block (w.heap.size + 1) (by simp [World.setCell] <;> omega)).trans ((Below.heap_setCell _ _ _ _ (by simp <;> omega)).trans HR.out)
  have hO2 := (hb3.block (w.heap.size + 1 + 1) (by simp [World.setCell] <;> omega)).trans (set_blk HO.out)
  have HB2 := Lib.hid (hbs.trans (hb3.mono hbs.size))
  have HV2 := Lib.hid ((HO1.out.low (p := ⟨w.heap.size + 1 + 1, 0, none⟩) (Nat.lt_succ_self _) (.slice (some ⟨g1, 0, none⟩) n n)).below (hb3.mono (by simp [World.setCell])))
  have HI2 := Lib.hid (ho2.wider (lo' := w1.heap.size) (hi' := w2.heap.size) (by simp [World.setCell]) (Nat.le_refl _))
  have HL2 := Lib.hid (ho3.wider (lo' := w1.heap.size) (hi' := w2.heap.size) (by simp [World.setCell]) (Nat.le_refl _))
  have a5 := cell_of_row _ _ 5 _ 29 (0, 0) hA2
  have z1 : w2.cell? ⟨w.heap.size + 1 + 1, 1, none⟩ = some (.int .i64 0) := cell_of_row _ _ 1 _ 38 (0, 0) hO2
  have z2 : w2.cell? ⟨w.heap.size + 1 + 1, 2, none⟩ = some (.slice none 0 0) := cell_of_row _ _ 2 _ 38 (0, 0) hO2
  have z3 : w2.cell? ⟨w.heap.size + 1 + 1, 3, none⟩ = some (.int .i64 0) := cell_of_row _ _ 3 _ 38 (0, 0) hO2
  have z4 : w2.cell? ⟨w.heap.size + 1 + 1, 4, none⟩ = some (.slice none 0 0) := cell_of_row _ _ 4 _ 38 (0, 0) hO2
  have f1 := free_blk hO2 1
  have f2 := free_blk hO2 2
  have f3 := free_blk hO2 3
  have f4 := free_blk hO2 4
  simp only [List.getElem?_toArray, List.getElem?_cons_zero, List.getElem?_cons_succ] at a5
  have HA2 := Lib.hid hA2
  have HR2 := Lib.hid hR2
  have HO2 := Lib.hid hO2
  clear hbs hb3 ho2 ho3 hA2 hR2 hO2 a1 a2 a3 a4 z0 f0 HO1 HA HR HO HN
  go_wp2_with fail
  have hbt := (((HB2.out.setCell (p := ⟨w.heap.size + 1 + 1, 1, none⟩) (show w.heap.size ≤ w.heap.size + 1 + 1 by omega) (.int .i64 now)).setCell (p := ⟨w.heap.size + 1 + 1, 2, none⟩) (show w.heap.size ≤ w.heap.size + 1 + 1 by omega) (.slice E1 n1 d1)).setCell (p := ⟨w.heap.size + 1 + 1, 3, none⟩) (show w.heap.size ≤ w.heap.size + 1 + 1 by omega) (.int .i64 far)).setCell (p := ⟨w.heap.size + 1 + 1, 4, none⟩) (show w.heap.size ≤ w.heap.size + 1 + 1 by omega) (.slice E2 n2 d2)
  refine (HW.out _ hbt).mono ?_
  rintro e w3 ⟨g3, rfl, ho4, hb4⟩
  have hx := hb4.size
  simp only [World.size_setCell] at hx
  have hR3 := (hb4.block (w.heap.size + 1) (by simp [World.setCell] <;> omega)).trans ((Below.heap_setCell _ _ _ _ (by simp <;> omega)).trans ((Below.heap_setCell _ _ _ _ (by simp <;> omega)).trans ((Below.heap_setCell _ _ _ _ (by simp <;> omega)).trans ((Below.heap_setCell _ _ _ _ (by simp <;> omega)).trans HR2.out))))
  have hO3 := (hb4.block (w.heap.size + 1 + 1) (by simp [World.setCell] <;> omega)).trans (set_blk (i := 4) (v := .slice E2 n2 d2) (set_blk (i := 3) (v := .int .i64 far) (set_blk (i := 2) (v := .slice E1 n1 d1) (set_blk (i := 1) (v := .int .i64 now) HO2.out))))
  have HB3 := Lib.hid (hbt.trans (hb4.mono hbt.size))
  have lo4 := fun (p : Addr) (hp : p.block = w.heap.size + 1 + 1) (u : Value) (W : World) => show ∀ (h : OwnV W (w.heap.size + 1 + 1 + 1) w1.heap.size (some ⟨g1, 0, none⟩) n gs), OwnV (W.setCell p u) (w.heap.size + 1 + 1 + 1) w1.heap.size (some ⟨g1, 0, none⟩) n gs from fun h => h.low (by rw [hp]; exact Nat.lt_succ_self _) u
  have HV3 := Lib.hid ((lo4 ⟨w.heap.size + 1 + 1, 4, none⟩ rfl (.slice E2 n2 d2) _ (lo4 ⟨w.heap.size + 1 + 1, 3, none⟩ rfl (.int .i64 far) _ (lo4 ⟨w.heap.size + 1 + 1, 2, none⟩ rfl (.slice E1 n1 d1) _ (lo4 ⟨w.heap.size + 1 + 1, 1, none⟩ rfl (.int .i64 now) _ HV2.out)))).below (hb4.mono (by simp [World.setCell] <;> omega)))
  have hlt4 : w.heap.size + 1 + 1 < w1.heap.size := by omega
  have HI3 := Lib.hid (((((HI2.out.low (p := ⟨w.heap.size + 1 + 1, 1, none⟩) hlt4 (.int .i64 now)).low (p := ⟨w.heap.size + 1 + 1, 2, none⟩) hlt4 (.slice E1 n1 d1)).low (p := ⟨w.heap.size + 1 + 1, 3, none⟩) hlt4 (.int .i64 far)).low (p := ⟨w.heap.size + 1 + 1, 4, none⟩) hlt4 (.slice E2 n2 d2)).below (hb4.mono (by simp [World.setCell] <;> omega)))
  have HL3 := Lib.hid (((((HL2.out.low (p := ⟨w.heap.size + 1 + 1, 1, none⟩) hlt4 (.int .i64 now)).low (p := ⟨w.heap.size + 1 + 1, 2, none⟩) hlt4 (.slice E1 n1 d1)).low (p := ⟨w.heap.size + 1 + 1, 3, none⟩) hlt4 (.int .i64 far)).low (p := ⟨w.heap.size + 1 + 1, 4, none⟩) hlt4 (.slice E2 n2 d2)).below (hb4.mono (by simp [World.setCell] <;> omega)))
  have HN3 := Lib.hid (ho4.wider (lo' := w2.heap.size) (hi' := w3.heap.size) (by simp [World.setCell]) (Nat.le_refl _))
  have q0 : w3.cell? ⟨w.heap.size + 1 + 1, 0, none⟩ = some (.slice (some ⟨g1, 0, none⟩) n n) := cell_of_row _ _ 0 _ 38 (0, 0) hO3
  have q1 : w3.cell? ⟨w.heap.size + 1 + 1, 1, none⟩ = some (.int .i64 now) := cell_of_row _ _ 1 _ 38 (0, 0) hO3
  have q2 : w3.cell? ⟨w.heap.size + 1 + 1, 2, none⟩ = some (.slice E1 n1 d1) := cell_of_row _ _ 2 _ 38 (0, 0) hO3
  have q3 : w3.cell? ⟨w.heap.size + 1 + 1, 3, none⟩ = some (.int .i64 far) := cell_of_row _ _ 3 _ 38 (0, 0) hO3
  have q4 : w3.cell? ⟨w.heap.size + 1 + 1, 4, none⟩ = some (.slice E2 n2 d2) := cell_of_row _ _ 4 _ 38 (0, 0) hO3
  have q5 : w3.cell? ⟨w.heap.size + 1 + 1, 5, none⟩ = some (.slice none 0 0) := cell_of_row _ _ 5 _ 38 (0, 0) hO3
  have u5 := free_blk hO3 5
  have r0 := cell_of_row _ _ 0 _ 38 (0, 0) hR3
  have r1 := cell_of_row _ _ 1 _ 38 (0, 0) hR3
  have r2 := cell_of_row _ _ 2 _ 38 (0, 0) hR3
  have r3 := cell_of_row _ _ 3 _ 38 (0, 0) hR3
  have r4 := cell_of_row _ _ 4 _ 38 (0, 0) hR3
  have r5 := cell_of_row _ _ 5 _ 38 (0, 0) hR3
  simp only [List.getElem?_toArray, List.getElem?_cons_zero, List.getElem?_cons_succ] at r0 r1 r2 r3 r4 r5
  have v0 := free_blk hR3 0
  have v1 := free_blk hR3 1
  have v2 := free_blk hR3 2
  have v3 := free_blk hR3 3
  have v4 := free_blk hR3 4
  have v5 := free_blk hR3 5
  have hy1 : w.heap.size + 1 < w3.heap.size := by omega
  have HP := Lib.hid (show OwnP w3 (w.heap.size + 1 + 1 + 1) w3.heap.size (some ⟨g1, 0, none⟩) n gs E1 d1 is E2 d2 ls (some ⟨g3, 0, none⟩) n3 ws from
    ⟨HV3.out.wider (Nat.le_refl _) (by omega), HI3.out.wider (by omega) (by omega), HL3.out.wider (by omega) (by omega), HN3.out.wider (by omega) (Nat.le_refl _), fun h hh x y hx hy => by
      have e1 := (Own.block (HV3.out.2.1 h hh) x hx).2.1
      have e2 := (Own.block HI3.out y hy).1
      omega⟩)
  have HPP := Lib.hid (fun (a b c d e f u : Value) => (own_put6 (a := a) (b := b) (c := c) (d := d) (e := e) (f := f) (HP.out.low (p := ⟨w.heap.size + 1 + 1, 5, none⟩) (Nat.lt_succ_self _) u) (g := w.heap.size + 1) (by omega)).wider (lo' := w.heap.size) (by omega) (Nat.le_refl _))
  have HBB := Lib.hid (fun (a b c d e f u : Value) => bel_put6 (a := a) (b := b) (c := c) (d := d) (e := e) (f := f) (HB3.out.setCell (p := ⟨w.heap.size + 1 + 1, 5, none⟩) (show w.heap.size ≤ w.heap.size + 1 + 1 by omega) u) (show w.heap.size ≤ w.heap.size + 1 by omega))
  clear hbt hb4 ho4 hR3 hO3 HA2 HR2 HO2 HV2 HI2 HL2 HB2 HB1 HB3 HV3 HI3 HL3 HN3 HP lo4 a5 z1 z2 z3 z4 f1 f2 f3 f4
  go_wp2
  exact bodyPost_ret (v := .agg #[.slice (some ⟨g1, 0, none⟩) n n, .int .i64 now, .slice E1 n1 d1, .int .i64 far, .slice E2 n2 d2, .slice (some ⟨g3, 0, none⟩) n3 n3]) (by simp [results, Try.results12, go_sem, q0, q1, q2, q3, q4, q5, r0, r1, r2, r3, r4, r5, v0, v1, v2, v3, v4, v5, hy1]) rfl ⟨_, _, gs, _, _, _, _, _, _, rfl, HDD.out, by
    have := HPP.out (.slice (some ⟨g1, 0, none⟩) n n) (.int .i64 now) (.slice E1 n1 d1) (.int .i64 far) (.slice E2 n2 d2) (.slice (some ⟨g3, 0, none⟩) n3 n3) (.slice (some ⟨g3, 0, none⟩) n3 n3)
    simpa [put6, World.setCell] using this, HBB.out _ _ _ _ _ _ _⟩
end Go.Proofs.Ytojplmjoipjabaa.Po
