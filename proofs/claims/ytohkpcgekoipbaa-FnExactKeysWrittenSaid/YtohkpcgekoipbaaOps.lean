/-
  Lists of operations (Op): how they read; contracts for the laws' helpers.
-/
import Derived.Test.YtohkpcgekoipbaaStr
import Derived.Test.YtohkpcgekoipbaaHeld
import Derived.Test.YtohkpcgekoipbaaSeen
namespace Go.Proofs.Ytohkpcgekoipbaa
open Go.RowKit CM
set_option linter.unusedVariables false

def opCs (x : (Int × ByteArray × ByteArray × Int)) : List Value := [.int .i64 x.1, .string x.2.1, .string x.2.2.1, .int .i64 x.2.2.2]
theorem opCs_len (ws : List (Int × ByteArray × ByteArray × Int)) : ∀ x ∈ ws.map opCs, x.length = 4 := by
  intro x hx; obtain ⟨v, _, rfl⟩ := List.mem_map.1 hx; rfl
def OpsB (w : World) (B : Nat) (A : Option Addr) (ws : List (Int × ByteArray × ByteArray × Int)) : Prop := RowB w B A 4 (ws.map opCs)
def OwnO (w : World) (lo hi : Nat) (A : Option Addr) (cap : Nat) (ws : List (Int × ByteArray × ByteArray × Int)) : Prop := Own w lo hi 50 4 A cap (ws.map opCs)
def szOs (ws : List (Int × ByteArray × ByteArray × Int)) : Nat := ws.length + (ws.map fun x => x.2.1.size + x.2.2.1.size).sum
def OSmall (ws : List (Int × ByteArray × ByteArray × Int)) : Prop := ws.length ≤ 1048576 ∧ ∀ x ∈ ws, x.2.1.size ≤ 1048576 ∧ x.2.2.1.size ≤ 1048576
def OMax (ws : List (Int × ByteArray × ByteArray × Int)) : Prop := ws.length ≤ maxLen ∧ ∀ x ∈ ws, x.2.1.size ≤ maxLen ∧ x.2.2.1.size ≤ maxLen
theorem osmall_of {ws : List (Int × ByteArray × ByteArray × Int)} (h : szOs ws ≤ 1048576) : OSmall ws := by
  unfold szOs at h
  exact ⟨by omega, fun v hv => by have := le_sum (fun x : (Int × ByteArray × ByteArray × Int) => x.2.1.size + x.2.2.1.size) ws v hv; omega⟩
section
variable {w w' : World} {B B' lo hi lo' hi' cap : Nat} {A : Option Addr} {ws : List (Int × ByteArray × ByteArray × Int)}
theorem OpsB.below (h : OpsB w B A ws) (hb : Below B w w') : OpsB w' B A ws := RowB.below h hb
theorem OpsB.mono (h : OpsB w B A ws) (hB : B ≤ B') : OpsB w B' A ws := RowB.mono h hB
theorem OpsB.get (h : OpsB w B A ws) (hn : 0 < ws.length) : ∃ b off, A = some ⟨b, off, none⟩ ∧ b < B ∧ ∀ k (h : k < ws.length), w.cell? ⟨b, off + k * 4, none⟩ = some (.int .i64 ws[k].1) ∧ w.cell? ⟨b, off + k * 4 + 1, none⟩ = some (.string ws[k].2.1) ∧ w.cell? ⟨b, off + k * 4 + 2, none⟩ = some (.string ws[k].2.2.1) ∧ w.cell? ⟨b, off + k * 4 + 3, none⟩ = some (.int .i64 ws[k].2.2.2) := by
  rcases h with h | ⟨b, off, hA, hlt, hc⟩
  · rw [List.map_eq_nil_iff] at h; subst h; simp at hn
  · refine ⟨b, off, hA, hlt, fun k hk => ?_⟩
    have hk' : k < (ws.map opCs).length := by simpa using hk
    have h0 := hc k hk' 0 (by omega)
    have h1 := hc k hk' 1 (by omega)
    have h2 := hc k hk' 2 (by omega)
    have h3 := hc k hk' 3 (by omega)
    simp only [List.getElem_map] at h0 h1 h2 h3
    exact ⟨h0, h1, h2, h3⟩
theorem OwnO.below (h : OwnO w lo hi A cap ws) (hb : Below hi w w') : OwnO w' lo hi A cap ws := Own.below h hb
theorem OwnO.mid (h : OwnO w lo hi A cap ws) (hm : Mid lo' hi' w w') (hd : hi' ≤ lo ∨ hi ≤ lo') : OwnO w' lo hi A cap ws := Own.mid h hm hd
theorem OwnO.wider (h : OwnO w lo hi A cap ws) (h1 : lo' ≤ lo) (h2 : hi ≤ hi') : OwnO w lo' hi' A cap ws := Own.wider h h1 h2
theorem OwnO.ops (h : OwnO w lo hi A cap ws) : OpsB w hi A ws := Own.row h
end
theorem infoOp : (Try.prog.info? 50).map (fun i => (i.zero, i.size, i.bytes)) = some (some (.agg #[.int .i64 0, .string ⟨#[]⟩, .string ⟨#[]⟩, .int .i64 0]), 4, 48) := by kernel_rfl
theorem Fill.snoc4 {w : World} {g n : Nat} {t : TypeId} {L : List (List Value)} {u v x y : Value} (h : Fill w g n 4 t L L.length) (hk : L.length < n) :
    Fill ((((w.setCell ⟨g, L.length * 4, none⟩ u).setCell ⟨g, L.length * 4 + 1, none⟩ v).setCell ⟨g, L.length * 4 + 2, none⟩ x).setCell ⟨g, L.length * 4 + 3, none⟩ y) g n 4 t (L ++ [[u, v, x, y]]) (L ++ [[u, v, x, y]]).length := by
  obtain ⟨cur, hh, hs, hc⟩ := h
  refine ⟨(((cur.setIfInBounds (L.length * 4) u).setIfInBounds (L.length * 4 + 1) v).setIfInBounds (L.length * 4 + 2) x).setIfInBounds (L.length * 4 + 3) y, ?_, by simp [hs], fun j hj hjk i hi => ?_⟩
  · simp [World.setCell, Array.getElem?_modify, hh]
  · rcases Nat.lt_or_ge j L.length with h1 | h1
    · rw [Array.getElem?_setIfInBounds_ne (by omega), Array.getElem?_setIfInBounds_ne (by omega), Array.getElem?_setIfInBounds_ne (by omega), Array.getElem?_setIfInBounds_ne (by omega), List.getElem_append_left h1]
      exact hc j h1 h1 i hi
    · have hjl : j = L.length := by simp at hj; omega
      subst hjl
      have hi' : i = 0 ∨ i = 1 ∨ i = 2 ∨ i = 3 := by omega
      rcases hi' with rfl | rfl | rfl | rfl
      · rw [Array.getElem?_setIfInBounds_ne (by omega), Array.getElem?_setIfInBounds_ne (by omega), Array.getElem?_setIfInBounds_ne (by omega), Nat.add_zero, Array.getElem?_setIfInBounds_self_of_lt (by omega)]
        simp
      · rw [Array.getElem?_setIfInBounds_ne (by omega), Array.getElem?_setIfInBounds_ne (by omega), Array.getElem?_setIfInBounds_self_of_lt (by simp; omega)]
        simp
      · rw [Array.getElem?_setIfInBounds_ne (by omega), Array.getElem?_setIfInBounds_self_of_lt (by simp; omega)]
        simp
      · rw [Array.getElem?_setIfInBounds_self_of_lt (by simp; omega)]
        simp
theorem Fill.snocO {w : World} {g n k : Nat} {t : TypeId} {ws : List (Int × ByteArray × ByteArray × Int)} (h : Fill w g n 4 t ((ws.take k).map opCs) k) (hk : k < ws.length) (hn : k < n) :
    Fill ((((w.setCell ⟨g, k * 4, none⟩ (.int .i64 ws[k].1)).setCell ⟨g, k * 4 + 1, none⟩ (.string ws[k].2.1)).setCell ⟨g, k * 4 + 2, none⟩ (.string ws[k].2.2.1)).setCell ⟨g, k * 4 + 3, none⟩ (.int .i64 ws[k].2.2.2)) g n 4 t ((ws.take (k + 1)).map opCs) (k + 1) := by
  have hl : ((ws.take k).map opCs).length = k := by simp; omega
  have e : (ws.take (k + 1)).map opCs = (ws.take k).map opCs ++ [[.int .i64 ws[k].1, .string ws[k].2.1, .string ws[k].2.2.1, .int .i64 ws[k].2.2.2]] := by
    rw [List.take_succ_eq_append_getElem hk, List.map_append]
    rfl
  have h1 := Fill.snoc4 (u := .int .i64 ws[k].1) (v := .string ws[k].2.1) (x := .string ws[k].2.2.1) (y := .int .i64 ws[k].2.2.2) (L := (ws.take k).map opCs) (by rw [hl]; exact h) (by omega)
  rw [hl] at h1
  rw [e]
  have hl2 : ((ws.take k).map opCs ++ [[Value.int .i64 ws[k].1, .string ws[k].2.1, .string ws[k].2.2.1, .int .i64 ws[k].2.2.2]]).length = k + 1 := by rw [List.length_append, hl]; rfl
  rw [hl2] at h1
  exact h1
set_option maxHeartbeats 400000 in
theorem szOp_any (kd : Int) (a b : ByteArray) (bi : Int) (l : Nat) (w : World) (ha : a.size ≤ maxLen) (hb : b.size ≤ maxLen) (hl : l ≤ 1048576) :
    Calls Try.prog 27 #[.agg #[.int .i64 kd, .string a, .string b, .int .i64 bi], .int .i64 (l : Int)] w fun e w' => e = .returned (.int .i64 (remI (a.size + b.size) l)) ∧ Below w.heap.size w w' := by
  unfold maxLen at ha hb
  by_cases h1 : a.size ≤ l
  · by_cases h2 : a.size + b.size ≤ l
    · have HR := Lib.hid (ret_int (k := .i64) (show (l : Int) - (a.size : Int) - (b.size : Int) = remI (a.size + b.size) l by rw [remI_yes h2]; omega))
      have h3 : (a.size : Int) ≤ (l : Int) := by omega
      have h4 : (b.size : Int) ≤ (l : Int) - (a.size : Int) := by omega
      go_enter Try.func27, Try.ntmps27
      go_wp2
      go_ret
      exact ⟨HR.out, below1 _ _⟩
    · rw [remI_no (by omega)]
      have h3 : (a.size : Int) ≤ (l : Int) := by omega
      have h4 : (l : Int) - (a.size : Int) < (b.size : Int) := by omega
      go_enter Try.func27, Try.ntmps27
      go_wp2
      go_ret
      exact ⟨rfl, below1 _ _⟩
  · rw [remI_no (by omega)]
    have h3 : (l : Int) < (a.size : Int) := by omega
    go_enter Try.func27, Try.ntmps27
    go_wp2
    go_ret
    exact ⟨rfl, below1 _ _⟩
set_option maxRecDepth 100000 in
set_option maxHeartbeats 1000000 in
theorem szOpS_any (A : Option Addr) (n c : Nat) (ws : List (Int × ByteArray × ByteArray × Int)) (l B : Nat) (w : World) (hn : ws.length = n) (h : OpsB w B A ws) (hB : B ≤ w.heap.size) (hm : OMax ws) (hl : l ≤ 1048576) :
    Calls Try.prog 7 #[.slice A n c, .int .i64 (l : Int)] w fun e w' => e = .returned (.int .i64 (remI (szOs ws) l)) ∧ Below w.heap.size w w' := by
  obtain ⟨hmn, hms⟩ := hm
  have hnn := Nat.le_of_eq hn
  have hnn' := Nat.le_of_eq hn.symm
  have HN := Lib.hid hn
  have HS := Lib.hid h
  have HM := Lib.hid hms
  have HT := Lib.hid (show szOs ws = n + (ws.map fun x => x.2.1.size + x.2.2.1.size).sum by rw [← hn]; rfl)
  have hnm : n ≤ maxLen := by omega
  unfold maxLen at hnm
  clear h hms hmn hn
  by_cases hln : n ≤ l
  · go_enter Try.func7, Try.ntmps7
    go_wp2
    go_loopw [1, 5] (fun v i wr => ∃ k r : Nat, k ≤ n ∧ i = .int .i64 k ∧ v = .int .i64 r ∧ r ≤ 1048576 ∧ Hid (r + (n + ((ws.take k).map fun x => x.2.1.size + x.2.2.1.size).sum) = l) ∧ Below w.heap.size w wr) (fun _ i _ => n - (intOf i).toNat)
    case atStart => exact ⟨0, l - n, by omega, rfl, by go_num, by omega, show _ = _ by simp; omega, Below.refl _ _⟩
    case round =>
      obtain ⟨k, r, hk, rfl, rfl, hr, HR, hb⟩ := hrel
      have HB := Lib.hid hb
      clear hb
      by_cases hlt : k < n
      · obtain ⟨b, off, rfl, hbB, hc⟩ := HS.out.get (by omega)
        obtain ⟨hc0, hc1, hc2, hc3⟩ := hc k (by omega)
        have c0 := (HB.out.cell (p := ⟨b, off + k * 4, none⟩) (Nat.lt_of_lt_of_le hbB hB)).trans hc0
        have c1 := (HB.out.cell (p := ⟨b, off + k * 4 + 1, none⟩) (Nat.lt_of_lt_of_le hbB hB)).trans hc1
        have c2 := (HB.out.cell (p := ⟨b, off + k * 4 + 2, none⟩) (Nat.lt_of_lt_of_le hbB hB)).trans hc2
        have c3 := (HB.out.cell (p := ⟨b, off + k * 4 + 3, none⟩) (Nat.lt_of_lt_of_le hbB hB)).trans hc3
        obtain ⟨y, hy⟩ : ∃ y, y = ws[k]'(by omega) := ⟨_, rfl⟩
        have HSum := Lib.hid (sum_take_succ (fun x : (Int × ByteArray × ByteArray × Int) => x.2.1.size + x.2.2.1.size) ws k (by omega))
        have hsz := HM.out _ (List.getElem_mem (show k < ws.length by omega))
        have HLe := Lib.hid (sum_take_le (fun x : (Int × ByteArray × ByteArray × Int) => x.2.1.size + x.2.2.1.size) ws (k + 1))
        rw [← hy] at c0 c1 c2 c3 hsz
        have HY := Lib.hid hy
        obtain ⟨kd, s1, s2, bi⟩ := y
        simp only at c0 c1 c2 c3 hsz
        have HC := Lib.hid fun W => szOp_any kd s1 s2 bi r W hsz.1 hsz.2 hr
        clear hc hc0 hc1 hc2 hc3 hy hsz
        by_cases hfit : s1.size + s2.size ≤ r
        · rw [remI_yes hfit] at HC
          have hf : (0 : Int) ≤ (r : Int) - ((s1.size + s2.size : Nat) : Int) := by omega
          go_wp2_with fail
          refine (HC.out _).mono ?_
          rintro e w4 ⟨rfl, hb4⟩
          have HB4 := Lib.hid (HB.out.trans (hb4.mono HB.out.size))
          clear hb4 c0 c1 c2 c3
          go_wp2
          go_roundw
          case rel => exact ⟨k + 1, r - (s1.size + s2.size), by omega, by go_num, by go_num, by omega, show _ = _ by have h1 := HSum.out; have h2 := HR.out; rw [← HY.out] at h1; rw [h1]; simp only; omega, HB4.out⟩
          case measure => simp [intOf]; omega
        · rw [remI_no (by omega)] at HC
          have HNO := Lib.hid (ret_int (k := .i64) (show (-1 : Int) = remI (szOs ws) l by
            have h1 := HSum.out
            rw [← HY.out] at h1
            have h2 := HR.out
            have h3 := HLe.out
            simp only at h1
            rw [remI_no (by rw [HT.out]; omega)]))
          go_wp2_with fail
          refine (HC.out _).mono ?_
          rintro e w4 ⟨rfl, hb4⟩
          have HB4 := Lib.hid (HB.out.trans (hb4.mono HB.out.size))
          clear hb4 c0 c1 c2 c3
          go_wp2
          go_ret
          exact ⟨HNO.out, HB4.out⟩
      · have HYES := Lib.hid (ret_int (k := .i64) (show (r : Int) = remI (szOs ws) l by
          have h2 := HR.out
          rw [List.take_of_length_le (by omega), ← HT.out] at h2
          rw [remI_yes (by omega)]; omega))
        go_wp2
        go_ret
        exact ⟨HYES.out, HB.out⟩
  · have HNO := Lib.hid (ret_int (k := .i64) (show (-1 : Int) = remI (szOs ws) l by rw [remI_no (by rw [HT.out]; omega)]))
    go_enter Try.func7, Try.ntmps7
    go_wp2
    go_ret
    exact ⟨HNO.out, Below.refl _ _⟩
theorem toOp_any (kd : Int) (a b : ByteArray) (bi : Int) (w : World) :
    Calls Try.prog 29 #[.agg #[.int .i64 kd, .string a, .string b, .int .i64 bi]] w fun e w' => e = .returned (.agg #[.int .i64 kd, .string a, .string b, .int .i64 bi]) ∧ Below w.heap.size w w' := by
  go_enter Try.func29, Try.ntmps29
  go_wp2
  exact bodyPost_ret (v := .agg #[.int .i64 kd, .string a, .string b, .int .i64 bi]) (by simp [results, Try.results29, go_sem]) rfl ⟨rfl, below3 _ _ _ _⟩
def ToOPost (ws : List (Int × ByteArray × ByteArray × Int)) (n : Nat) (w : World) (e : Ending) (w' : World) : Prop :=
  ∃ g, e = .returned (.slice (some ⟨g, 0, none⟩) n n) ∧ g = w.heap.size ∧ OwnO w' w.heap.size w'.heap.size (some ⟨g, 0, none⟩) n ws ∧ Below w.heap.size w w'
set_option maxRecDepth 100000 in
set_option maxHeartbeats 1000000 in
theorem toOpS_any (A : Option Addr) (n c : Nat) (ws : List (Int × ByteArray × ByteArray × Int)) (B : Nat) (w : World) (hn : ws.length = n) (h : OpsB w B A ws) (hB : B ≤ w.heap.size) (hl : n ≤ 1048576) :
    Calls Try.prog 9 #[.slice A n c] w (ToOPost ws n w) := by
  obtain ⟨i0, hi, hz0, hz1, hz2⟩ := info_parts infoOp
  have HN := Lib.hid hn
  have hge := Nat.le_of_eq hn
  have hle := Nat.le_of_eq hn.symm
  have HS := Lib.hid h
  clear hn h
  go_enter Try.func9, Try.ntmps9
  go_wp2_with (at_make; refine wpList_make_full _ rfl (.tmp 6) (.tmp 6) 25 rfl w.heap.size 50 i0 _ 4 Try.underlying25 hi hz0 hz1 .i64 .i64 _ _ n rfl rfl rfl rfl (by rw [hz2]; omega) (by unfold maxLen; omega) (Nat.le_refl _) ?_; intro w1 hown hgr)
  have hb1 : Below w.heap.size w w1 := (Below.refl _ _).grown hgr (Nat.le_refl _) (by simp)
  have hf0 := fill_made (by omega) hown
  clear hown hgr
  go_loopw [4] (fun i wr => ∃ k : Nat, k ≤ n ∧ i = .int .i64 k ∧ Fill wr w.heap.size n 4 50 ((ws.take k).map opCs) k ∧ Below w.heap.size w wr) (fun i _ => n - (intOf i).toNat)
  case atStart => exact ⟨0, by omega, rfl, by simpa using hf0, hb1⟩
  case round =>
    clear hf0 hb1
    obtain ⟨k, hk, rfl, hf, hb⟩ := hrel
    by_cases hlt : k < n
    · obtain ⟨b, off, rfl, hbB, hc⟩ := HS.out.get (by omega)
      obtain ⟨hc0, hc1, hc2, hc3⟩ := hc k (by omega)
      have c0 := (hb.cell (p := ⟨b, off + k * 4, none⟩) (Nat.lt_of_lt_of_le hbB hB)).trans hc0
      have c1 := (hb.cell (p := ⟨b, off + k * 4 + 1, none⟩) (Nat.lt_of_lt_of_le hbB hB)).trans hc1
      have c2 := (hb.cell (p := ⟨b, off + k * 4 + 2, none⟩) (Nat.lt_of_lt_of_le hbB hB)).trans hc2
      have c3 := (hb.cell (p := ⟨b, off + k * 4 + 3, none⟩) (Nat.lt_of_lt_of_le hbB hB)).trans hc3
      have HST := Lib.hid fun W (hW : Below wr.heap.size wr W) => (hf.below hW).snocO (by omega) hlt
      obtain ⟨y, hy⟩ : ∃ y, y = ws[k]'(by omega) := ⟨_, rfl⟩
      rw [← hy] at c0 c1 c2 c3 HST
      obtain ⟨kd, s1, s2, bi⟩ := y
      simp only at c0 c1 c2 c3 HST
      have HF := Lib.hid hf
      have HB := Lib.hid hb
      clear hc hc0 hc1 hc2 hc3 hy hf hb
      go_wp2_with fail
      refine (toOp_any _ _ _ _ _).mono ?_
      rintro e w4 ⟨rfl, hb4⟩
      have hf := HF.out.below hb4
      obtain ⟨v0, hv0⟩ := hf.cell (k * 4) (by omega)
      obtain ⟨v1, hv1⟩ := hf.cell (k * 4 + 1) (by omega)
      obtain ⟨v2, hv2⟩ := hf.cell (k * 4 + 2) (by omega)
      obtain ⟨v3, hv3⟩ := hf.cell (k * 4 + 3) (by omega)
      have hfr0 := hf.free (k * 4)
      have hfr1 := hf.free (k * 4 + 1)
      have hfr2 := hf.free (k * 4 + 2)
      have hfr3 := hf.free (k * 4 + 3)
      have HST4 := Lib.hid (HST.out w4 hb4)
      have HB4 := Lib.hid (HB.out.trans (hb4.mono HB.out.size))
      clear hf hb4 c0 c1 c2 c3
      go_wp2
      go_roundw
      case rel => exact ⟨k + 1, by omega, by go_num, HST4.out, (((HB4.out.setCell (p := ⟨w.heap.size, k * 4, none⟩) (Nat.le_refl _) _).setCell (p := ⟨w.heap.size, k * 4 + 1, none⟩) (Nat.le_refl _) _).setCell (p := ⟨w.heap.size, k * 4 + 2, none⟩) (Nat.le_refl _) _).setCell (p := ⟨w.heap.size, k * 4 + 3, none⟩) (Nat.le_refl _) _⟩
      case measure => simp [intOf]; omega
    · have hkn : k = n := by omega
      subst hkn
      rw [List.take_of_length_le (by omega)] at hf
      go_wp2
      go_ret
      exact ⟨w.heap.size, rfl, rfl, Fill.own (by rw [show (ws.map opCs).length = k by simp; exact HN.out]; exact hf) (by simp; exact HN.out) (by unfold maxLen; omega) (Nat.le_refl _) hf.lt, hb⟩
theorem eqOp_same (kd : Int) (a b : ByteArray) (bi : Int) (w : World) :
    Calls Try.prog 31 #[.agg #[.int .i64 kd, .string a, .string b, .int .i64 bi], .agg #[.int .i64 kd, .string a, .string b, .int .i64 bi]] w fun e w' => e = .returned (.bool true) ∧ Below w.heap.size w w' := by
  go_enter Try.func31, Try.ntmps31
  go_wp2
  go_ret
  exact ⟨rfl, below2 _ _ _⟩
set_option maxRecDepth 100000 in
set_option maxHeartbeats 1000000 in
theorem eqOpS_same (A A' : Option Addr) (n c c' : Nat) (ws : List (Int × ByteArray × ByteArray × Int)) (B : Nat) (w : World) (hn : ws.length = n) (h : OpsB w B A ws) (h' : OpsB w B A' ws) (hB : B ≤ w.heap.size) (hl : n ≤ 1048576) :
    Calls Try.prog 11 #[.slice A n c, .slice A' n c'] w fun e w' => e = .returned (.bool true) ∧ Below w.heap.size w w' := by
  have hge := Nat.le_of_eq hn
  have hle := Nat.le_of_eq hn.symm
  have HS := Lib.hid h
  have HS' := Lib.hid h'
  clear hn h h'
  go_enter Try.func11, Try.ntmps11
  go_wp2
  go_loopw [5] (fun i wr => ∃ k : Nat, k ≤ n ∧ i = .int .i64 k ∧ Below w.heap.size w wr) (fun i _ => n - (intOf i).toNat)
  case atStart => exact ⟨0, by omega, rfl, Below.refl _ _⟩
  case round =>
    obtain ⟨k, hk, rfl, hb⟩ := hrel
    by_cases hlt : k < n
    · obtain ⟨b, off, rfl, hbB, hc⟩ := HS.out.get (by omega)
      obtain ⟨b', off', rfl, hbB', hc'⟩ := HS'.out.get (by omega)
      obtain ⟨hc0, hc1, hc2, hc3⟩ := hc k (by omega)
      obtain ⟨hd0, hd1, hd2, hd3⟩ := hc' k (by omega)
      have c0 := (hb.cell (p := ⟨b, off + k * 4, none⟩) (Nat.lt_of_lt_of_le hbB hB)).trans hc0
      have c1 := (hb.cell (p := ⟨b, off + k * 4 + 1, none⟩) (Nat.lt_of_lt_of_le hbB hB)).trans hc1
      have c2 := (hb.cell (p := ⟨b, off + k * 4 + 2, none⟩) (Nat.lt_of_lt_of_le hbB hB)).trans hc2
      have c3 := (hb.cell (p := ⟨b, off + k * 4 + 3, none⟩) (Nat.lt_of_lt_of_le hbB hB)).trans hc3
      have d0 := (hb.cell (p := ⟨b', off' + k * 4, none⟩) (Nat.lt_of_lt_of_le hbB' hB)).trans hd0
      have d1 := (hb.cell (p := ⟨b', off' + k * 4 + 1, none⟩) (Nat.lt_of_lt_of_le hbB' hB)).trans hd1
      have d2 := (hb.cell (p := ⟨b', off' + k * 4 + 2, none⟩) (Nat.lt_of_lt_of_le hbB' hB)).trans hd2
      have d3 := (hb.cell (p := ⟨b', off' + k * 4 + 3, none⟩) (Nat.lt_of_lt_of_le hbB' hB)).trans hd3
      obtain ⟨y, hy⟩ : ∃ y, y = ws[k]'(by omega) := ⟨_, rfl⟩
      rw [← hy] at c0 c1 c2 c3 d0 d1 d2 d3
      obtain ⟨kd, t, s, gb⟩ := y
      simp only at c0 c1 c2 c3 d0 d1 d2 d3
      have hk0 : (0 : Int) ≤ (k : Int) := by omega
      have hkn : (k : Int) < (n : Int) := by omega
      have hb1 : b < wr.heap.size := Nat.lt_of_lt_of_le hbB (Nat.le_trans hB hb.size)
      have hb2 : b' < wr.heap.size := Nat.lt_of_lt_of_le hbB' (Nat.le_trans hB hb.size)
      have HB := Lib.hid hb
      clear hc hc' hc0 hc1 hc2 hc3 hd0 hd1 hd2 hd3 hy hb
      go_wp2_with fail
      go_region_held3 (fun w' => w'.cell? ⟨b, off + k * 4, none⟩ = some (.int .i64 kd) ∧ w'.cell? ⟨b, off + k * 4 + 1, none⟩ = some (.string t) ∧ w'.cell? ⟨b, off + k * 4 + 2, none⟩ = some (.string s) ∧ w'.cell? ⟨b, off + k * 4 + 3, none⟩ = some (.int .i64 gb) ∧ w'.cell? ⟨b', off' + k * 4, none⟩ = some (.int .i64 kd) ∧ w'.cell? ⟨b', off' + k * 4 + 1, none⟩ = some (.string t) ∧ w'.cell? ⟨b', off' + k * 4 + 2, none⟩ = some (.string s) ∧ w'.cell? ⟨b', off' + k * 4 + 3, none⟩ = some (.int .i64 gb))
        (first | exact ⟨c0, c1, c2, c3, d0, d1, d2, d3⟩ | (go_split_ands; exact ⟨kept2 hb4 c0 hb1, kept2 hb4 c1 hb1, kept2 hb4 c2 hb1, kept2 hb4 c3 hb1, kept2 hb4 d0 hb2, kept2 hb4 d1 hb2, kept2 hb4 d2 hb2, kept2 hb4 d3 hb2⟩))
        ((go_at_call 31; (with_reducible refine (eqOp_same _ _ _ _ _).mono ?_); rintro e w4 ⟨rfl, hb4⟩))
      have HBB := Lib.hid (Below.trans (b := wr.drew) HB.out.drew (hb4.mono HB.out.size))
      clear hb4
      go_wp2
      go_roundw
      case rel => exact ⟨k + 1, by omega, by go_num, HBB.out⟩
      case measure => simp [intOf]; omega
    · go_wp2
      go_ret
      exact ⟨rfl, hb⟩
/-- What the laws write over operations. -/
def mOp (k : Nat) : (Int × ByteArray × ByteArray × Int) := ((k : Int), mark (k + 1), mark (k + 2), (k : Int) + 3)
def mOps (k n : Nat) : List (Int × ByteArray × ByteArray × Int) := (List.range n).map fun i => mOp (k + 4 * i)
theorem mOps_len (k n : Nat) : (mOps k n).length = n := by simp [mOps]
def mFlatO (k n : Nat) : List Value := ((mOps k n).map opCs).flatten
theorem mFlatO_len (k n : Nat) : (mFlatO k n).length = n * 4 := by
  unfold mFlatO; rw [flat_len (opCs_len _), List.length_map, mOps_len]
theorem mFlatO_succ (k n q : Nat) (hq : q = k + 4 * n) : mFlatO k (n + 1) = (((mFlatO k n ++ [.int .i64 (q : Int)]) ++ [.string (mark (q + 1))]) ++ [.string (mark (q + 2))]) ++ [.int .i64 ((q : Int) + 3)] := by
  subst hq
  unfold mFlatO mOps
  rw [List.range_succ, List.map_append, List.map_append, List.flatten_append]
  simp [mOp, opCs]

set_option maxRecDepth 100000 in
set_option maxHeartbeats 1000000 in
theorem markOpS_any (A : Option Addr) (n cap k lo hi : Nat) (ws : List (Int × ByteArray × ByteArray × Int)) (w : World) (hn : ws.length = n) (h : Own w lo hi 50 4 A cap (ws.map opCs)) (hk1 : 1 ≤ k) (hk : k + 4 * n ≤ 1000000000) :
    Calls Try.prog 17 #[.slice A n cap, .int .i64 (k : Int)] w fun e w' => e = .returned (.int .i64 ((k + 4 * n : Nat) : Int)) ∧ Own w' lo hi 50 4 A cap ((mOps k n).map opCs) ∧ MidA A w w' := by
  by_cases hz : n = 0
  · subst hz
    have hl : ws = [] := List.eq_nil_of_length_eq_zero hn
    subst hl
    have HO := Lib.hid h
    clear h
    go_enter Try.func17, Try.ntmps17
    go_wp2
    refine wp_loop_rounds 1 ?_
    rw [rounds_succ]
    go_wp2
    go_ret
    exact ⟨rfl, HO.out, MidA.refl _ _⟩
  · obtain ⟨g, cur, rfl, _⟩ := h.form (by simp; omega)
    obtain ⟨hf0, h1, h2, h3, h4⟩ := h.flat
    have HF0 := Lib.hid hf0
    have HB := Lib.hid (show lo ≤ g ∧ g < hi ∧ n ≤ cap ∧ cap ≤ maxLen from ⟨h1, h2, by rw [← hn]; simpa using h3, h4⟩)
    have hc : n ≤ cap := HB.out.2.2.1
    clear h hf0 h1 h2 h3 h4 hn
    go_enter Try.func17, Try.ntmps17
    go_wp2
    go_loopw [1, 5] (fun x i wr => ∃ (j q : Nat), j ≤ n ∧ q = k + 4 * j ∧ x = .int .i64 (q : Int) ∧ i = .int .i64 j ∧ Hid (Flat wr g (cap * 4) 50 (mFlatO k j)) ∧ Hid (MidA (some ⟨g, 0, none⟩) w wr)) (fun _ i _ => n - (intOf i).toNat)
    case atStart => exact ⟨0, k, by omega, by omega, rfl, rfl, HF0, MidA.refl _ _⟩
    case round =>
      clear HF0
      obtain ⟨j, q, hj, hq, rfl, rfl, HF, HM⟩ := hrel
      by_cases hlt : j < n
      · have HC := Lib.hid (fun W => mark_any (q + 1) W (by omega) (by omega))
        rw [show ((q + 1 : Nat) : Int) = (q : Int) + 1 from by omega] at HC
        have HC2 := Lib.hid (fun W => mark_any (q + 2) W (by omega) (by omega))
        rw [show ((q + 2 : Nat) : Int) = (q : Int) + 1 + 1 from by omega] at HC2
        have HSU := Lib.hid (mFlatO_succ k j q hq)
        have HLE := Lib.hid (mFlatO_len k j)
        have hj0 : (0 : Int) ≤ (j : Int) := by omega
        have hj1 : (j : Int) < (n : Int) := by omega
        have hq3 : q + 4 ≤ 1000000000 := by omega
        have HQ := Lib.hid hq
        clear hq
        obtain ⟨v0, hv0⟩ := HF.out.cell (j * 4) (by omega)
        have hfr0 := HF.out.free (j * 4)
        have HF0 := Lib.hid (HF.out.snoc (by rw [HLE.out]; omega) (j * 4) HLE.out.symm (.int .i64 (q : Int)))
        have HM0 := Lib.hid (HM.out.set (j * 4) (.int .i64 (q : Int)))
        go_wp2_with fail
        refine (HC.out _).mono ?_
        rintro e w1 ⟨rfl, hb1⟩
        have hf1 := HF0.out.below hb1
        obtain ⟨v1, hv1⟩ := hf1.cell (j * 4 + 1) (by omega)
        have hfr1 := hf1.free (j * 4 + 1)
        have HF1 := Lib.hid (hf1.snoc (by simp [HLE.out]; omega) (j * 4 + 1) (by simp [HLE.out]) (.string (mark (q + 1))))
        have HM1 := Lib.hid ((HM0.out.trans (midA_of hb1)).set (j * 4 + 1) (.string (mark (q + 1))))
        clear hf1 hb1 hv0 hfr0
        go_wp2_with fail
        refine (HC2.out _).mono ?_
        rintro e w2 ⟨rfl, hb2⟩
        have hf2 := HF1.out.below hb2
        have HM2 := Lib.hid (HM1.out.trans (midA_of hb2))
        obtain ⟨v2, hv2⟩ := hf2.cell (j * 4 + 2) (by omega)
        obtain ⟨v3, hv3⟩ := hf2.cell (j * 4 + 3) (by omega)
        have hfr2 := hf2.free (j * 4 + 2)
        have hfr3 := hf2.free (j * 4 + 3)
        have HF3 := Lib.hid (fun u v => (hf2.snoc (by simp [HLE.out]; omega) (j * 4 + 2) (by simp [HLE.out]) u).snoc (by simp [HLE.out]; omega) (j * 4 + 3) (by simp [HLE.out]) v)
        clear hf2 hb2 hv1 hfr1
        go_wp2
        go_roundw
        case rel =>
          refine ⟨j + 1, q + 4, by omega, by have := HQ.out; omega, by go_num, by go_num, ?_, (HM2.out.set _ _).set _ _⟩
          unfold Hid
          rw [HSU.out]
          first | exact HF3.out _ _ | (have h9 := HF3.out (.string (mark (q + 2))) (.int .i64 ((q : Int) + 1 + 1 + 1)); rw [show (q : Int) + 1 + 1 + 1 = (q : Int) + 3 by omega] at h9; simpa only [show (q : Int) + 1 + 1 + 1 = (q : Int) + 3 by omega] using h9)
        case measure => simp [intOf]; omega
      · have hjn : j = n := by omega
        subst hjn
        subst hq
        have ho := Flat.own (L := (mOps k j).map opCs) HF.out (opCs_len _) HB.out.1 HB.out.2.1 (by simp [mOps_len]; exact hc) HB.out.2.2.2
        have HO := Lib.hid ho
        clear ho
        go_wp2
        go_ret
        exact ⟨rfl, HO.out, HM.out⟩
theorem list4 {r : List Value} {a b c d : Value} (hl : r.length = 4) (h0 : r[0]? = some a) (h1 : r[1]? = some b) (h2 : r[2]? = some c) (h3 : r[3]? = some d) : r = [a, b, c, d] := by
  rcases r with _ | ⟨x, _ | ⟨y, _ | ⟨z, _ | ⟨u, _ | ⟨v, r⟩⟩⟩⟩⟩ <;> simp_all
def OpsAt (w : World) (A : Option Addr) (ws : List (Int × ByteArray × ByteArray × Int)) : Prop := OpsB w w.heap.size A ws ∧ OMax ws
open Go.ChangeShapes Go.WideShapes Go.Deep Go.Joins
section
variable {H : Type} {enc : TypeId × Value → H} {w : World} {base : Nat} {spare : Nat → Bool} {held : Bool}
theorem view_ops {fuel len cap : Nat} {a : Option Addr} {x : DataW H × List MemPlace} (h : DataW.trod enc Try.prog w base spare held fuel 22 [.slice a len cap] = some x) :
    ∃ ws : List (Int × ByteArray × ByteArray × Int), ws.length = len ∧ len ≤ maxLen ∧ OpsAt w a ws := by
  obtain ⟨a', len', cap', L, hcs, hlen, hmx, hrow, hfs⟩ := row_view Try.underlying22 Try.underlying49 (by kernel_rfl) (by kernel_rfl) (by simp) h
  simp only [List.cons.injEq, Value.slice.injEq, and_true] at hcs
  obtain ⟨rfl, rfl, rfl⟩ := hcs
  obtain ⟨xs, h1, h2, h3⟩ := choose_list (α := (Int × ByteArray × ByteArray × Int)) (Q := fun x => x.2.1.size ≤ maxLen ∧ x.2.2.1.size ≤ maxLen) (f := opCs) L fun r hr => by
    obtain ⟨hl, hf⟩ := hfs r hr
    obtain ⟨v0, y0, n0, e0, t0⟩ := hf 0 _ rfl
    obtain ⟨v1, y1, n1, e1, t1⟩ := hf 1 _ rfl
    obtain ⟨v2, y2, n2, e2, t2⟩ := hf 2 _ rfl
    obtain ⟨v3, y3, n3, e3, t3⟩ := hf 3 _ rfl
    obtain ⟨s0, k0, _, z0⟩ := DataW.trod_int Try.underlying3 t0
    obtain ⟨s1, k1, _, z1⟩ := DataW.trod_string Try.underlying9 t1
    obtain ⟨s2, k2, _, z2⟩ := DataW.trod_string Try.underlying9 t2
    obtain ⟨s3, k3, _, z3⟩ := DataW.trod_int Try.underlying3 t3
    simp only [List.cons.injEq, and_true] at k0 k1 k2 k3
    subst k0 k1 k2 k3
    exact ⟨(s0, s1, s2, s3), ⟨z1, z2⟩, list4 hl e0 e1 e2 e3⟩
  refine ⟨xs, h1.trans hlen, hmx, ?_, by rw [h1, hlen]; exact hmx, h3⟩
  unfold OpsB
  rw [h2]
  exact hrow.toB
end
end Go.Proofs.Ytohkpcgekoipbaa
