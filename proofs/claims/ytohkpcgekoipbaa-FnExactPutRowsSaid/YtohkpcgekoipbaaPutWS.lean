/-
  The model's rows: l5Rows; l5PutW, a write put into a rising list.
-/
import Derived.Test.YtohkpcgekoipbaaPutRI
import Derived.BigQuiet
namespace Go.Proofs.Ytohkpcgekoipbaa
open Go Go.RowKit CM
set_option linter.unusedVariables false

set_option maxRecDepth 100000 in
set_option maxHeartbeats 1000000 in
theorem l5Rows_any (A : Option Addr) (n c : Nat) (ws : List (ByteArray × ByteArray × Bool)) (B : Nat) (w : World) (hn : ws.length = n) (h : WritesB w B A ws) (hB : B ≤ w.heap.size) (hm : WSmall ws) :
    Calls Try.prog 42 #[.slice A n c] w fun e w' => e = .returned (.bool (rowsB ws)) ∧ Below w.heap.size w w' := by
  have HW := Lib.hid (fun W (hW : Below w.heap.size w W) => l3Writes_any A n c ws B W hn (h.below (hW.mono hB)) (Nat.le_trans hB hW.size) hm)
  have HE := Lib.hid (show rowsB ws = (noneGone ws && wB ws) from rfl)
  have HN := Lib.hid hn
  have hge := Nat.le_of_eq hn
  have hle := Nat.le_of_eq hn.symm
  have hnl : n ≤ 1048576 := by rw [← hn]; exact hm.1
  have HS := Lib.hid h
  obtain ⟨r, hr⟩ : ∃ r, r = rowsB ws := ⟨_, rfl⟩
  rw [← hr] at HE ⊢
  clear h hn hm hr
  go_enter Try.func42, Try.ntmps42
  go_wp2
  go_loopw [7] (fun i wr => ∃ k : Nat, k ≤ n ∧ i = .int .i64 k ∧ Hid (noneGone (ws.take k) = true) ∧ Below w.heap.size w wr) (fun i _ => n - (intOf i).toNat)
  case atStart => exact ⟨0, by omega, rfl, Lib.hid rfl, Below.refl _ _⟩
  case round =>
    obtain ⟨k, hk, rfl, HP, hb⟩ := hrel
    by_cases hlt : k < n
    · obtain ⟨b, off, rfl, hbB, hc⟩ := HS.out.get (by omega)
      obtain ⟨hc0, hc1, hc2⟩ := hc k (by omega)
      have c0 := (hb.cell (p := ⟨b, off + k * 3, none⟩) (Nat.lt_of_lt_of_le hbB hB)).trans hc0
      have c1 := (hb.cell (p := ⟨b, off + k * 3 + 1, none⟩) (Nat.lt_of_lt_of_le hbB hB)).trans hc1
      have c2 := (hb.cell (p := ⟨b, off + k * 3 + 2, none⟩) (Nat.lt_of_lt_of_le hbB hB)).trans hc2
      have HYES := Lib.hid (fun (hg : (ws[k]'(by omega)).2.2 = true) => (show (Ending.returned (.bool false)) = .returned (.bool r) by rw [HE.out, noneGone_no (by omega) hg]; rfl))
      have HNO := Lib.hid (fun (hg : (ws[k]'(by omega)).2.2 = false) => noneGone_succ (ws := ws) (k := k) (by omega) HP.out hg)
      obtain ⟨y, hy⟩ : ∃ y, y = ws[k]'(by omega) := ⟨_, rfl⟩
      rw [← hy] at c0 c1 c2 HYES HNO
      obtain ⟨s1, s2, g⟩ := y
      simp only at c0 c1 c2 HYES HNO
      have HB4 := Lib.hid (hb.trans ((below1 wr (.cells #[.string s1, .string s2, .bool g] 74)).mono hb.size))
      clear hc hc0 hc1 hc2 hy hb
      cases g with
      | true =>
        have HF := Lib.hid (HYES.out (by trivial))
        go_wp2
        go_ret
        exact ⟨HF.out, HB4.out⟩
      | false =>
        have HP4 := Lib.hid (HNO.out (by trivial))
        go_wp2
        go_roundw
        case rel => exact ⟨k + 1, by omega, by go_num, HP4, HB4.out⟩
        case measure => simp [intOf]; omega
    · have hkn : k = n := by omega
      subst hkn
      have HF := Lib.hid (show (Ending.returned (.bool (wB ws))) = .returned (.bool r) by
        have h1 := HP.out
        rw [List.take_of_length_le (by omega)] at h1
        rw [HE.out, h1]; rfl)
      have HWB := Lib.hid (HW.out wr hb)
      obtain ⟨v, hv⟩ : ∃ v, v = wB ws := ⟨_, rfl⟩
      rw [← hv] at HWB HF
      have HB := Lib.hid hb
      clear hb hv
      go_wp2_with fail
      refine HWB.out.mono ?_
      rintro e w5 ⟨rfl, hb5⟩
      have HB5 := Lib.hid (HB.out.trans (hb5.mono HB.out.size))
      clear hb5
      go_wp2
      go_ret
      exact ⟨HF.out, HB5.out⟩

theorem own_at {w : World} {base g : Nat} {t : TypeId} {sz : Nat} (hb : base ≤ g) (hg : w.heap[g]? = some (.cells #[] t (0, 0))) : w.ownsRow base t sz (.slice (some ⟨g, 0, none⟩) 0 0) 0 [] :=
  ⟨by simp, .inr ⟨g, 0, #[], rfl, hb, hg, Nat.le_refl _, Nat.zero_le _, by simp, by simp⟩⟩
/-- What putting a write into a rising list gives: a row of the call's own. -/
def PutWPost (l : List (ByteArray × ByteArray × Bool)) (x : (ByteArray × ByteArray × Bool)) (w : World) (e : Ending) (w' : World) : Prop :=
  ∃ v', e = .returned v' ∧ w'.ownsRow w.heap.size 74 3 v' (putW l x).length (((putW l x).map wrCs).flatten) ∧ Below w.heap.size w w'

/-- What the new-key way ends with. -/
theorem putw_new {l : List (ByteArray × ByteArray × Bool)} {x : (ByteArray × ByteArray × Bool)} {q n : Nat} {w w8 : World} {v : Value} {base : Nat} (hn : l.length = n) (hup : upB wLt l = true) (hq : q ≤ n) (hlo : ∀ j (hj : j < l.length), j < q → kLt l[j].1 x.1 = true) (hhi : ∀ j (hj : j < l.length), q ≤ j → kLt x.1 l[j].1 = true) (hb : w.heap.size ≤ base)
    (hown : w8.ownsRow base 74 3 v (n + 1) ((((l.take q).map wrCs).flatten ++ wrCs x) ++ ((l.drop q).map wrCs).flatten)) (hbel : Below w.heap.size w w8) : PutWPost l x w (.returned v) w8 := by
  have e : putW l x = l.take q ++ x :: l.drop q := putW_new q (by omega) hlo (fun h => by
    have := hhi q h (Nat.le_refl _)
    refine ⟨?_, fun e => by rw [e] at this; exact absurd rfl (kLt_ne this)⟩
    cases e : kLt l[q].1 x.1 with
    | false => rfl
    | true => have := kLt_trans e this; exact absurd rfl (kLt_ne this))
  have hl2 : (putW l x).length = n + 1 := by rw [e, List.length_append, List.length_cons, List.length_take, List.length_drop]; omega
  refine ⟨v, rfl, ?_, hbel⟩
  rw [hl2, e, List.map_append, List.map_cons, List.flatten_append, List.flatten_cons, ← List.append_assoc]
  exact ⟨hown.1, hown.2.imp id fun ⟨g, cap, cur, h1, h2, h3⟩ => ⟨g, cap, cur, h1, Nat.le_trans hb h2, h3⟩⟩

end Go.Proofs.Ytohkpcgekoipbaa
