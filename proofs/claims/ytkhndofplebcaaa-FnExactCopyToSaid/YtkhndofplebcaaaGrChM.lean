/-
  Groups changed, as data and in memory: one replica's flag. The answer of the functions that hand back a group.
-/
import Derived.Test.YtkhndofplebcaaaGrGd
import Derived.Test.YtkhndofplebcaaaGrW
namespace Go.Proofs.Ytkhndofplebcaaa.Gr
open Go.RowKit CM
set_option linter.unusedVariables false
set_option linter.unusedSimpArgs false

def GAPost (a : List RD × Int × Int × Bool) (w : World) (e : Ending) (w' : World) : Prop :=
  ∃ A c gs, e = .returned (.tuple #[.agg #[.slice A a.1.length c, .int .i64 a.2.1, .int .i64 a.2.2.1], .bool a.2.2.2]) ∧ gs.map rdat = a.1 ∧ OwnK KR w' w.heap.size w'.heap.size A c gs ∧ Below w.heap.size w w'
theorem GAPost_un (l : List RD) (at_ al : Int) (ok : Bool) (w : World) : GAPost (l, at_, al, ok) w = fun e w' => ∃ A c gs, e = .returned (.tuple #[.agg #[.slice A l.length c, .int .i64 at_, .int .i64 al], .bool ok]) ∧ gs.map rdat = l ∧ OwnK KR w' w.heap.size w'.heap.size A c gs ∧ Below w.heap.size w w' := rfl
def noGA : List RD × Int × Int × Bool := ([], 0, 0, false)
theorem noGA_post {w w' : World} (hb : Below w.heap.size w w') : GAPost noGA w (.returned (.tuple #[.agg #[.slice none 0 0, .int .i64 0, .int .i64 0], .bool false])) w' := ⟨none, 0, [], rfl, rfl, OwnK.nil, hb⟩
def setUp (rs : List RD) (i : Nat) (b : Bool) : List RD := match rs[i]? with | some r => rs.set i ⟨b, r.su, r.log⟩ | none => rs
def upH (gs : List RH) (i : Nat) (b : Bool) : List RH := match gs[i]? with | some r => gs.set i ⟨b, r.su, r.A, r.c, r.es, r.lo, r.hi⟩ | none => gs
theorem upH_len (gs : List RH) (i : Nat) (b : Bool) : (upH gs i b).length = gs.length := by unfold upH; split <;> simp
theorem upH_map (gs : List RH) (i : Nat) (b : Bool) : (upH gs i b).map rdat = setUp (gs.map rdat) i b := by
  unfold upH setUp
  rw [List.getElem?_map]
  cases gs[i]? with
  | none => rfl
  | some r => simp [List.map_set, rdat]
theorem setUp_len (rs : List RD) (i : Nat) (b : Bool) : (setUp rs i b).length = rs.length := by unfold setUp; split <;> simp
theorem set_split {α : Type} (l : List α) (q : Nat) (hq : q < l.length) (y : α) : l.set q y = l.take q ++ y :: l.drop (q + 1) := by
  rw [List.set_eq_take_append_cons_drop, if_pos hq]
theorem get_split {α : Type} (l : List α) (q : Nat) (hq : q < l.length) : l = l.take q ++ l[q] :: l.drop (q + 1) := by
  rw [← List.drop_eq_getElem_cons hq, List.take_append_drop]
theorem own_upH {w : World} {lo hi c g : Nat} {gs : List RH} (h : OwnK KR w lo hi (some ⟨g, 0, none⟩) c gs) (q : Nat) (hq : q < gs.length) (b : Bool) : OwnK KR (w.setCell ⟨g, q * 3, none⟩ (.bool b)) lo hi (some ⟨g, 0, none⟩) c (upH gs q b) := by
  have e : upH gs q b = gs.take q ++ ⟨b, gs[q].su, gs[q].A, gs[q].c, gs[q].es, gs[q].lo, gs[q].hi⟩ :: gs.drop (q + 1) := by
    unfold upH
    rw [List.getElem?_eq_getElem hq]
    exact set_split gs q hq _
  rw [e]
  rw [get_split gs q hq] at h
  exact h.cellAt ⟨b, gs[q].su, gs[q].A, gs[q].c, gs[q].es, gs[q].lo, gs[q].hi⟩ 0 (by decide) (.bool b) rfl rfl rfl (fun _ h => h) (q * 3) (by rw [List.length_take, Nat.min_eq_left (by omega)]; rfl)
theorem setUp_sz (rs : List RD) (i : Nat) (b : Bool) : rpSz (setUp rs i b) = rpSz rs := by
  unfold setUp
  split
  · rename_i r hr
    obtain ⟨hi, he⟩ := List.getElem?_eq_some_iff.1 hr
    unfold rpSz
    rw [List.length_set, List.map_set]
    congr 2
    have : (rs.map fun r => lgSz r.log)[i]? = some (lgSz r.log) := by rw [List.getElem?_map, hr]; rfl
    refine List.ext_getElem? fun k => ?_
    by_cases hk : k = i
    · subst hk
      rw [List.getElem?_set_self (by simpa using hi), this]
    · rw [List.getElem?_set_ne (by omega)]
  · rfl
def crashA (tm ld : Int) (rs : List RD) (r : Int) : List RD × Int × Int × Bool := if grpB tm ld rs = true ∧ isUpB rs r = true then (setUp rs r.toNat false, tm, if ld = r then -1 else ld, true) else noGA
def startA (tm ld : Int) (rs : List RD) (r : Int) : List RD × Int × Int × Bool := if grpB tm ld rs = true ∧ (hasB rs.length r && !upAt rs r.toNat) = true then (setUp rs r.toNat true, tm, ld, true) else noGA
theorem crashA_sz {tm ld r : Int} {rs : List RD} (h : rpSz rs ≤ 1048576) : rpSz (crashA tm ld rs r).1 ≤ 1048576 := by
  unfold crashA; split
  · simp only [setUp_sz]; exact h
  · unfold noGA rpSz; simp
theorem startA_sz {tm ld r : Int} {rs : List RD} (h : rpSz rs ≤ 1048576) : rpSz (startA tm ld rs r).1 ≤ 1048576 := by
  unfold startA; split
  · simp only [setUp_sz]; exact h
  · unfold noGA rpSz; simp
theorem crashA_no {tm ld r : Int} {rs : List RD} (h : grpB tm ld rs = false ∨ isUpB rs r = false) : crashA tm ld rs r = noGA := by
  unfold crashA; rw [if_neg]; rintro ⟨h1, h2⟩; rcases h with h | h <;> simp [h] at h1 h2
theorem startA_no {tm ld r : Int} {rs : List RD} (h : grpB tm ld rs = false ∨ (hasB rs.length r && !upAt rs r.toNat) = false) : startA tm ld rs r = noGA := by
  unfold startA; rw [if_neg]; rintro ⟨h1, h2⟩; rcases h with h | h <;> simp [h] at h1 h2
theorem hasB_nat {n : Nat} {r : Int} (h : hasB n r = true) : ∃ q : Nat, r = (q : Int) ∧ q < n := by
  unfold hasB at h
  simp only [Bool.and_eq_true, decide_eq_true_eq] at h
  exact ⟨r.toNat, by omega, by omega⟩
end Go.Proofs.Ytkhndofplebcaaa.Gr
