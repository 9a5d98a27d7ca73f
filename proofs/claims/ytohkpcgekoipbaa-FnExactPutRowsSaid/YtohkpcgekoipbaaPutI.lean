/-
  The program's rows: isGone, the search for a deletion, goodRows, copyWrites, setWrite.
-/
import Derived.Test.YtohkpcgekoipbaaInsW
import Derived.Test.YtohkpcgekoipbaaFindW
import Derived.Test.YtohkpcgekoipbaaPutWM
import Derived.Test.YtohkpcgekoipbaaCopy
namespace Go.Proofs.Ytohkpcgekoipbaa
open Go.RowKit CM
set_option linter.unusedVariables false

theorem isGone_any (k v : ByteArray) (g : Bool) (w : World) : Calls Try.prog 51 #[.agg #[.string k, .string v, .bool g]] w fun e w' => e = .returned (.bool g) ∧ Below w.heap.size w w' := by
  go_enter Try.func51, Try.ntmps51
  go_wp2
  go_ret
  exact ⟨rfl, below1 _ _⟩

/-- The first deletion, or -1. -/
def GoneAt (ws : List (ByteArray × ByteArray × Bool)) (r : Int) : Prop := (∃ k : Nat, r = k ∧ ∃ h : k < ws.length, ws[k].2.2 = true ∧ noneGone (ws.take k) = true) ∨ (r = -1 ∧ noneGone ws = true)
def GonePost (ws : List (ByteArray × ByteArray × Bool)) (w : World) (e : Ending) (w' : World) : Prop := ∃ r : Int, e = .returned (.int .i64 r) ∧ GoneAt ws r ∧ Below w.heap.size w w'
theorem noneGone_succ {ws : List (ByteArray × ByteArray × Bool)} {k : Nat} (h : k < ws.length) (hp : noneGone (ws.take k) = true) (hg : ws[k].2.2 = false) : noneGone (ws.take (k + 1)) = true := by
  rw [List.take_succ_eq_append_getElem h]
  unfold noneGone at hp ⊢
  rw [List.all_append, hp]
  simp [hg]
theorem noneGone_no {ws : List (ByteArray × ByteArray × Bool)} {k : Nat} (h : k < ws.length) (hg : ws[k].2.2 = true) : noneGone ws = false := by
  cases e : noneGone ws with
  | false => rfl
  | true =>
    unfold noneGone at e
    rw [List.all_eq_true] at e
    have := e _ (List.getElem_mem h)
    rw [hg] at this; simp at this

set_option maxRecDepth 100000 in
set_option maxHeartbeats 1000000 in
theorem indexGone_any (A : Option Addr) (n c : Nat) (ws : List (ByteArray × ByteArray × Bool)) (B : Nat) (w : World) (hn : ws.length = n) (h : WritesB w B A ws) (hB : B ≤ w.heap.size) (hl : n ≤ 1048576) :
    Calls Try.prog 69 #[.slice A n c, .func (.func 51) #[] #[]] w (GonePost ws w) := by
  have HN := Lib.hid hn
  have hge := Nat.le_of_eq hn
  have hle := Nat.le_of_eq hn.symm
  have HS := Lib.hid h
  clear hn h
  go_enter Try.func69, Try.ntmps69
  go_wp2
  go_loopw [8] (fun i wr => ∃ k : Nat, k ≤ n ∧ i = .int .i64 k ∧ Hid (noneGone (ws.take k) = true) ∧ Below w.heap.size w wr) (fun i _ => n - (intOf i).toNat)
  case atStart => exact ⟨0, by omega, rfl, Lib.hid rfl, Below.refl _ _⟩
  case round =>
    obtain ⟨k, hk, rfl, HP, hb⟩ := hrel
    by_cases hlt : k < n
    · obtain ⟨b, off, rfl, hbB, hc⟩ := HS.out.get (by omega)
      obtain ⟨hc0, hc1, hc2⟩ := hc k (by omega)
      have c0 := (hb.cell (p := ⟨b, off + k * 3, none⟩) (Nat.lt_of_lt_of_le hbB hB)).trans hc0
      have c1 := (hb.cell (p := ⟨b, off + k * 3 + 1, none⟩) (Nat.lt_of_lt_of_le hbB hB)).trans hc1
      have c2 := (hb.cell (p := ⟨b, off + k * 3 + 2, none⟩) (Nat.lt_of_lt_of_le hbB hB)).trans hc2
      have HYES := Lib.hid (fun (hg : (ws[k]'(by omega)).2.2 = true) => (show ∀ w', Below w.heap.size w w' → GonePost ws w (.returned (.int .i64 (k : Int))) w' from fun w' hb' => ⟨k, rfl, .inl ⟨k, rfl, by omega, hg, HP.out⟩, hb'⟩))
      have HNO := Lib.hid (fun (hg : (ws[k]'(by omega)).2.2 = false) => noneGone_succ (ws := ws) (k := k) (by omega) HP.out hg)
      obtain ⟨y, hy⟩ : ∃ y, y = ws[k]'(by omega) := ⟨_, rfl⟩
      rw [← hy] at c0 c1 c2 HYES HNO
      obtain ⟨s1, s2, g⟩ := y
      simp only at c0 c1 c2 HYES HNO
      have HB := Lib.hid hb
      clear hc hc0 hc1 hc2 hy hb
      cases g with
      | true =>
        go_wp2_with fail
        refine (isGone_any _ _ _ _).mono ?_
        rintro e w4 ⟨rfl, hb4⟩
        have HF := Lib.hid (HYES.out (by trivial) w4 (HB.out.trans (hb4.mono HB.out.size)))
        clear hb4
        go_wp2
        go_ret
        exact HF.out
      | false =>
        go_wp2_with fail
        refine (isGone_any _ _ _ _).mono ?_
        rintro e w4 ⟨rfl, hb4⟩
        have HB4 := Lib.hid (HB.out.trans (hb4.mono HB.out.size))
        have HP4 := Lib.hid (HNO.out (by trivial))
        clear hb4
        go_wp2
        go_roundw
        case rel => exact ⟨k + 1, by omega, by go_num, HP4, HB4.out⟩
        case measure => simp [intOf]; omega
    · have hkn : k = n := by omega
      subst hkn
      have HF := Lib.hid (show GonePost ws w (.returned (.int .i64 (-1))) wr from ⟨-1, rfl, .inr ⟨rfl, by have := HP.out; rwa [List.take_of_length_le (by omega)] at this⟩, hb⟩)
      clear hb
      go_wp2
      go_ret
      exact HF.out

theorem containsGone_any (A : Option Addr) (n c : Nat) (ws : List (ByteArray × ByteArray × Bool)) (B : Nat) (w : World) (hn : ws.length = n) (h : WritesB w B A ws) (hB : B ≤ w.heap.size) (hl : n ≤ 1048576) :
    Calls Try.prog 65 #[.slice A n c, .func (.func 51) #[] #[]] w fun e w' => e = .returned (.bool (!noneGone ws)) ∧ Below w.heap.size w w' := by
  have HC := Lib.hid (indexGone_any A n c ws B w hn h hB hl)
  clear h
  go_enter Try.func65, Try.ntmps65
  go_wp2_with fail
  refine HC.out.mono ?_
  rintro e w4 ⟨r, rfl, hr, hb4⟩
  have HB4 := Lib.hid hb4
  clear hb4
  rcases hr with ⟨k, rfl, hk, hg, _⟩ | ⟨rfl, hg⟩
  · have HF := Lib.hid (show (Ending.returned (.bool true)) = .returned (.bool (!noneGone ws)) by rw [noneGone_no hk hg]; rfl)
    have hk0 : (0 : Int) ≤ (k : Int) := by omega
    clear hg
    go_wp2
    go_ret
    exact ⟨HF.out, HB4.out⟩
  · have HF := Lib.hid (show (Ending.returned (.bool false)) = .returned (.bool (!noneGone ws)) by rw [hg]; rfl)
    clear hg
    go_wp2
    go_ret
    exact ⟨HF.out, HB4.out⟩

theorem goodRows_any (A : Option Addr) (n c : Nat) (ws : List (ByteArray × ByteArray × Bool)) (B : Nat) (w : World) (hn : ws.length = n) (h : WritesB w B A ws) (hB : B ≤ w.heap.size) (hm : WSmall ws) :
    Calls Try.prog 46 #[.slice A n c] w fun e w' => e = .returned (.bool (rowsB ws)) ∧ Below w.heap.size w w' := by
  have HG := Lib.hid (goodWrites_any A n c ws B w hn h hB hm)
  have HC := Lib.hid (fun W (hW : Below w.heap.size w W) => containsGone_any A n c ws B W hn (h.below (hW.mono hB)) (Nat.le_trans hB hW.size) (by rw [← hn]; exact hm.1))
  have HE := Lib.hid (show rowsB ws = (noneGone ws && wB ws) from rfl)
  obtain ⟨v, hv⟩ : ∃ v, v = wB ws := ⟨_, rfl⟩
  obtain ⟨u, hu⟩ : ∃ u, u = noneGone ws := ⟨_, rfl⟩
  obtain ⟨r, hr⟩ : ∃ r, r = rowsB ws := ⟨_, rfl⟩
  rw [← hv] at HG HE
  rw [← hu] at HC HE
  rw [← hr] at HE ⊢
  clear h hn hm hv hu hr
  cases v with
  | false =>
    have HF := Lib.hid (show (Ending.returned (.bool false)) = .returned (.bool r) by rw [HE.out]; simp)
    go_enter Try.func46, Try.ntmps46
    go_wp2_with fail
    refine HG.out.mono ?_
    rintro e w4 ⟨rfl, hb4⟩
    go_wp2
    go_ret
    exact ⟨HF.out, hb4⟩
  | true =>
    have HF := Lib.hid (show (Ending.returned (.bool u)) = .returned (.bool r) by rw [HE.out]; simp)
    go_enter Try.func46, Try.ntmps46
    go_wp2_with fail
    refine HG.out.mono ?_
    rintro e w4 ⟨rfl, hb4⟩
    have HB4 := Lib.hid hb4
    clear hb4
    go_wp2_with fail
    refine (HC.out _ HB4.out).mono ?_
    rintro e w5 ⟨rfl, hb5⟩
    have HB5 := Lib.hid (HB4.out.trans (hb5.mono HB4.out.size))
    clear hb5
    cases u
    · go_wp2
      go_ret
      exact ⟨HF.out, HB5.out⟩
    · go_wp2
      go_ret
      exact ⟨HF.out, HB5.out⟩

theorem wrCs_one (ws : List (ByteArray × ByteArray × Bool)) : ∀ u ∈ (ws.map wrCs).flatten, u.oneCell' = true := by
  intro u hu
  obtain ⟨l, hl, hu⟩ := List.mem_flatten.1 hu
  obtain ⟨v, _, rfl⟩ := List.mem_map.1 hl
  simp [wrCs] at hu
  rcases hu with rfl | rfl | rfl <;> rfl
theorem run_copy_none {P : Program} (w : World) (dT sT ty elem : TypeId) (d a : Option Addr) (dCap sCap s : Nat) (hu : P.underlying dT = some (.slice elem)) (hs : (P.info? elem).map (·.size) = some s) :
    (Builtin.copy_ #[dT, sT] ty #[.slice d 0 dCap, .slice a 0 sCap]).run P w = .ok (.int .i64 0) w := by
  cases hq : P.info? elem with
  | none => simp [hq] at hs
  | some i =>
    have hl : ∀ (x : Addr), (loadCells x 0).run P w = .ok #[] w := fun x => by simpa using run_loadCells_list (P := P) w x [] (by simp)
    cases d <;> cases a <;> simp [Builtin.copy_, run_underlying hu, Builtin.lenOf, Builtin.firstCells, sizeOf, typeInfo, hq, storeCells, hl, goInt]
/-- What a copy onto a new row of the same length leaves, empty or not. -/
theorem copy_rows {P : Program} {w w1 : World} {A : Option Addr} {n c sz : Nat} {dT sT ty elem : TypeId} {L : List (List Value)} {B : Nat} (hf : Fill w1 w.heap.size n sz elem [] 0) (hb1 : Below w.heap.size w w1) (hn : L.length = n) (hL : ∀ x ∈ L, x.length = sz) (hz : 0 < sz) (hone : ∀ u ∈ L.flatten, u.oneCell' = true)
    (hu : P.underlying dT = some (.slice elem)) (hsz : (P.info? elem).map (·.size) = some sz) (h : RowB w B A sz L) (hB : B ≤ w.heap.size) (hm : n ≤ maxLen) :
    ∃ w2, (Builtin.copy_ #[dT, sT] ty #[.slice (some ⟨w.heap.size, 0, none⟩) n n, .slice A n c]).run P w1 = .ok (.int .i64 (n : Int)) w2 ∧ Own w2 w.heap.size w2.heap.size elem sz (some ⟨w.heap.size, 0, none⟩) n L ∧ Below w.heap.size w w2 := by
  by_cases h0 : n = 0
  · subst h0
    have h0 : L = [] := List.eq_nil_of_length_eq_zero hn
    subst h0
    refine ⟨w1, run_copy_none w1 dT sT ty elem _ A 0 c sz hu hsz, ?_, hb1⟩
    obtain ⟨cur, hh, hcs, _⟩ := hf
    exact .inr ⟨w.heap.size, cur, rfl, Nat.le_refl _, lt_blk hh, hh, by simp, Nat.zero_le _, hcs, fun j hj => by simp at hj⟩
  · rcases h with h | ⟨b, off, hA, hlt, hc⟩
    · rw [h] at hn; exact absurd hn.symm h0
    · subst hA
      exact copy_new hf hb1 hn hL hz hone hu hsz (.inr ⟨b, off, rfl, hlt, hc⟩) hB hm

set_option maxRecDepth 100000 in
set_option maxHeartbeats 1000000 in
theorem copyWrites_any (A : Option Addr) (n c : Nat) (ws : List (ByteArray × ByteArray × Bool)) (B : Nat) (w : World) (hn : ws.length = n) (h : WritesB w B A ws) (hB : B ≤ w.heap.size) (hl : n ≤ 1048576) :
    Calls Try.prog 48 #[.slice A n c] w (ToWPost ws n w) := by
  obtain ⟨i0, hi, hz0, hz1, hz2⟩ := info_parts infoWrite
  have hsz : (Try.prog.info? 74).map (·.size) = some 3 := by rw [hi]; simp [hz1]
  have HC := Lib.hid (fun w1 (hf : Fill w1 w.heap.size n 3 74 [] 0) hb1 => copy_rows (P := Try.prog) (w := w) (w1 := w1) (A := A) (c := c) (dT := 40) (sT := 40) (ty := 3) hf hb1 (show (ws.map wrCs).length = n by simpa using hn) (wrCs_len _) (by decide) (wrCs_one _) Try.underlying40 hsz h hB (by unfold maxLen; omega))
  clear hn h hsz
  go_enter Try.func48, Try.ntmps48
  go_wp2_with (at_make; refine wpList_make_full _ rfl (.tmp 5) (.tmp 5) 40 rfl w.heap.size 74 i0 _ 3 Try.underlying40 hi hz0 hz1 .i64 .i64 _ _ n rfl rfl rfl rfl (by rw [hz2]; omega) (by unfold maxLen; omega) (Nat.le_refl _) ?_; intro w1 hown hgr; obtain ⟨w2, hrun, ho2, hb2⟩ := HC.out w1 (fill_made (by omega) hown) ((Below.refl _ _).grown hgr (Nat.le_refl _) (by simp)))
  go_ret
  exact ⟨w.heap.size, rfl, rfl, ho2, hb2⟩
end Go.Proofs.Ytohkpcgekoipbaa
