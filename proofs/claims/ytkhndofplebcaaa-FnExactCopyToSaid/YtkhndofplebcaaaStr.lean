/-
  Slices of strings: what reads as a list; sizes; contracts for the laws' helpers szStringS, toStringS, eqStringS.
-/
import Derived.Test.YtkhndofplebcaaaEq
import Derived.Test.YtkhndofplebcaaaSz
namespace Go.Proofs.Ytkhndofplebcaaa
open Go.RowKit CM
set_option linter.unusedVariables false

def strCs (s : ByteArray) : List Value := [.string s]
theorem strCs_len (xs : List ByteArray) : ∀ x ∈ xs.map strCs, x.length = 1 := by
  intro x hx; obtain ⟨v, _, rfl⟩ := List.mem_map.1 hx; rfl
def StrsB (w : World) (B : Nat) (A : Option Addr) (xs : List ByteArray) : Prop := RowB w B A 1 (xs.map strCs)
def OwnS (w : World) (lo hi : Nat) (A : Option Addr) (cap : Nat) (xs : List ByteArray) : Prop := Own w lo hi 9 1 A cap (xs.map strCs)
section
variable {w w' : World} {B B' lo hi lo' hi' cap : Nat} {A : Option Addr} {xs : List ByteArray}
theorem StrsB.below (h : StrsB w B A xs) (hb : Below B w w') : StrsB w' B A xs := RowB.below h hb
theorem StrsB.mono (h : StrsB w B A xs) (hB : B ≤ B') : StrsB w B' A xs := RowB.mono h hB
theorem StrsB.get (h : StrsB w B A xs) (hn : 0 < xs.length) : ∃ b off, A = some ⟨b, off, none⟩ ∧ b < B ∧ ∀ k (h : k < xs.length), w.cell? ⟨b, off + k, none⟩ = some (.string xs[k]) := by
  rcases h with h | ⟨b, off, hA, hlt, hc⟩
  · rw [List.map_eq_nil_iff] at h; subst h; simp at hn
  · refine ⟨b, off, hA, hlt, fun k hk => ?_⟩
    have hk' : k < (xs.map strCs).length := by simpa using hk
    have h0 := hc k hk' 0 (by omega)
    simp only [List.getElem_map, Nat.mul_one, Nat.add_zero] at h0
    exact h0
theorem StrsB.nil : StrsB w B A [] := .inl rfl
theorem OwnS.below (h : OwnS w lo hi A cap xs) (hb : Below hi w w') : OwnS w' lo hi A cap xs := Own.below h hb
theorem OwnS.mid (h : OwnS w lo hi A cap xs) (hm : Mid lo' hi' w w') (hd : hi' ≤ lo ∨ hi ≤ lo') : OwnS w' lo hi A cap xs := Own.mid h hm hd
theorem OwnS.wider (h : OwnS w lo hi A cap xs) (h1 : lo' ≤ lo) (h2 : hi ≤ hi') : OwnS w lo' hi' A cap xs := Own.wider h h1 h2
theorem OwnS.strs (h : OwnS w lo hi A cap xs) : StrsB w hi A xs := Own.row h
end

def szSs (xs : List ByteArray) : Nat := xs.length + (xs.map fun x => x.size).sum
def SSmall (xs : List ByteArray) : Prop := xs.length ≤ 1048576 ∧ ∀ x ∈ xs, x.size ≤ 1048576
def SMax (xs : List ByteArray) : Prop := xs.length ≤ maxLen ∧ ∀ x ∈ xs, x.size ≤ maxLen
theorem ssmall_of {xs : List ByteArray} (h : szSs xs ≤ 1048576) : SSmall xs := by
  unfold szSs at h
  exact ⟨by omega, fun v hv => by have := le_sum (fun x : ByteArray => x.size) xs v hv; omega⟩

set_option maxRecDepth 100000 in
set_option maxHeartbeats 1000000 in
theorem szStringS_any (A : Option Addr) (n c : Nat) (xs : List ByteArray) (l B : Nat) (w : World) (hn : xs.length = n) (h : StrsB w B A xs) (hB : B ≤ w.heap.size) (hm : SMax xs) (hl : l ≤ 1048576) :
    Calls Try.prog 55 #[.slice A n c, .int .i64 (l : Int)] w fun e w' => e = .returned (.int .i64 (remI (szSs xs) l)) ∧ Below w.heap.size w w' := by
  obtain ⟨hmn, hms⟩ := hm
  have hnn := Nat.le_of_eq hn
  have hnn' := Nat.le_of_eq hn.symm
  have HN := Lib.hid hn
  have HS := Lib.hid h
  have HM := Lib.hid hms
  have HT := Lib.hid (show szSs xs = n + (xs.map fun x => x.size).sum by rw [← hn]; rfl)
  have hnm : n ≤ maxLen := by omega
  unfold maxLen at hnm
  clear h hms hmn hn
  by_cases hln : n ≤ l
  · go_enter Try.func55, Try.ntmps55
    go_wp2
    go_loopw [1, 5] (fun v i wr => ∃ k r : Nat, k ≤ n ∧ i = .int .i64 k ∧ v = .int .i64 r ∧ r ≤ 1048576 ∧ Hid (r + (n + ((xs.take k).map fun x => x.size).sum) = l) ∧ wr = w) (fun _ i _ => n - (intOf i).toNat)
    case atStart => exact ⟨0, l - n, by omega, rfl, by go_num, by omega, show _ = _ by simp; omega, rfl⟩
    case round =>
      obtain ⟨k, r, hk, rfl, rfl, hr, HR, rfl⟩ := hrel
      by_cases hlt : k < n
      · obtain ⟨b, off, rfl, hbB, hc⟩ := HS.out.get (by omega)
        have c0 := hc k (by omega)
        obtain ⟨y, hy⟩ : ∃ y, y = xs[k]'(by omega) := ⟨_, rfl⟩
        have HSum := Lib.hid (sum_take_succ (fun x : ByteArray => x.size) xs k (by omega))
        have hsz := HM.out _ (List.getElem_mem (show k < xs.length by omega))
        have HLe := Lib.hid (sum_take_le (fun x : ByteArray => x.size) xs (k + 1))
        rw [← hy] at c0 hsz
        have HY := Lib.hid hy
        unfold maxLen at hsz
        clear hc hy
        by_cases hfit : y.size ≤ r
        · have hf : (y.size : Int) ≤ (r : Int) := by omega
          go_wp2
          go_roundw
          case rel => exact ⟨k + 1, r - y.size, by omega, by go_num, by go_num, by omega, show _ = _ by have h1 := HSum.out; have h2 := HR.out; rw [← HY.out] at h1; rw [h1]; omega, by first | rfl | trivial⟩
          case measure => simp [intOf]; omega
        · have HNO := Lib.hid (ret_int (k := .i64) (show (-1 : Int) = remI (szSs xs) l by
            have h1 := HSum.out
            rw [← HY.out] at h1
            have h2 := HR.out
            have h3 := HLe.out
            rw [remI_no (by rw [HT.out]; omega)]))
          have hf : (r : Int) < (y.size : Int) := by omega
          go_wp2
          go_ret
          exact ⟨HNO.out, Below.refl _ _⟩
      · have HYES := Lib.hid (ret_int (k := .i64) (show (r : Int) = remI (szSs xs) l by
          have h2 := HR.out
          rw [List.take_of_length_le (by omega), ← HT.out] at h2
          rw [remI_yes (by omega)]; omega))
        go_wp2
        go_ret
        exact ⟨HYES.out, Below.refl _ _⟩
  · have HNO := Lib.hid (ret_int (k := .i64) (show (-1 : Int) = remI (szSs xs) l by rw [remI_no (by rw [HT.out]; omega)]))
    go_enter Try.func55, Try.ntmps55
    go_wp2
    go_ret
    exact ⟨HNO.out, Below.refl _ _⟩

theorem infoStr : (Try.prog.info? 9).map (fun i => (i.zero, i.size, i.bytes)) = some (some (.string ⟨#[]⟩), 1, 16) := by kernel_rfl
theorem Fill.snoc1 {w : World} {g n : Nat} {t : TypeId} {L : List (List Value)} {u : Value} (h : Fill w g n 1 t L L.length) (hk : L.length < n) :
    Fill (w.setCell ⟨g, L.length, none⟩ u) g n 1 t (L ++ [[u]]) (L.length + 1) := by
  obtain ⟨cur, hh, hs, hc⟩ := h
  refine ⟨cur.setIfInBounds L.length u, ?_, by simpa using hs, fun j hj hjL i hi => ?_⟩
  · simp [World.setCell, Array.getElem?_modify, hh]
  · have hi0 : i = 0 := by omega
    subst hi0
    rcases Nat.lt_or_ge j L.length with h1 | h1
    · rw [Array.getElem?_setIfInBounds_ne (by omega)]
      rw [List.getElem_append_left h1]
      exact hc j (by omega) h1 0 (by omega)
    · have : j = L.length := by omega
      subst this
      rw [Nat.mul_one, Nat.add_zero, Array.getElem?_setIfInBounds_self_of_lt (by omega)]
      simp
theorem Fill.snocS {w : World} {g n k : Nat} {t : TypeId} {xs : List ByteArray} (h : Fill w g n 1 t ((xs.take k).map strCs) k) (hk : k < xs.length) (hn : k < n) :
    Fill (w.setCell ⟨g, k, none⟩ (.string xs[k])) g n 1 t ((xs.take (k + 1)).map strCs) (k + 1) := by
  have hl : ((xs.take k).map strCs).length = k := by simp; omega
  have e : (xs.take (k + 1)).map strCs = (xs.take k).map strCs ++ [[.string xs[k]]] := by
    rw [List.take_succ_eq_append_getElem hk, List.map_append]
    rfl
  have h1 := Fill.snoc1 (u := .string xs[k]) (L := (xs.take k).map strCs) (by rw [hl]; exact h) (by omega)
  rw [hl] at h1
  rw [e]
  exact h1

/-- What toStringS hands back: a new slice in a block of its own that reads as the same list. -/
def ToSPost (xs : List ByteArray) (n : Nat) (w : World) (e : Ending) (w' : World) : Prop :=
  ∃ g, e = .returned (.slice (some ⟨g, 0, none⟩) n n) ∧ g = w.heap.size ∧ OwnS w' w.heap.size w'.heap.size (some ⟨g, 0, none⟩) n xs ∧ Below w.heap.size w w'

set_option maxRecDepth 100000 in
set_option maxHeartbeats 1000000 in
theorem toStringS_any (A : Option Addr) (n c : Nat) (xs : List ByteArray) (B : Nat) (w : World) (hn : xs.length = n) (h : StrsB w B A xs) (hB : B ≤ w.heap.size) (hl : n ≤ 1048576) :
    Calls Try.prog 62 #[.slice A n c] w (ToSPost xs n w) := by
  obtain ⟨i0, hi, hz0, hz1, hz2⟩ := info_parts infoStr
  have HN := Lib.hid hn
  have hge := Nat.le_of_eq hn
  have hle := Nat.le_of_eq hn.symm
  have HS := Lib.hid h
  clear hn h
  go_enter Try.func62, Try.ntmps62
  go_wp2_with (at_make; refine wpList_make_full _ rfl (.tmp 6) (.tmp 6) 22 rfl w.heap.size 9 i0 _ 1 Try.underlying22 hi hz0 hz1 .i64 .i64 _ _ n rfl rfl rfl rfl (by rw [hz2]; omega) (by unfold maxLen; omega) (Nat.le_refl _) ?_; intro w1 hown hgr)
  have hb1 : Below w.heap.size w w1 := (Below.refl _ _).grown hgr (Nat.le_refl _) (by simp)
  have hf0 := fill_made (by omega) hown
  clear hown hgr
  go_loopw [4] (fun i wr => ∃ k : Nat, k ≤ n ∧ i = .int .i64 k ∧ Fill wr w.heap.size n 1 9 ((xs.take k).map strCs) k ∧ Below w.heap.size w wr) (fun i _ => n - (intOf i).toNat)
  case atStart => exact ⟨0, by omega, rfl, by simpa using hf0, hb1⟩
  case round =>
    clear hf0 hb1
    obtain ⟨k, hk, rfl, hf, hb⟩ := hrel
    by_cases hlt : k < n
    · obtain ⟨b, off, rfl, hbB, hc⟩ := HS.out.get (by omega)
      have c0 := (hb.cell (p := ⟨b, off + k, none⟩) (Nat.lt_of_lt_of_le hbB hB)).trans (hc k (by omega))
      have HST := Lib.hid (hf.snocS (by omega) hlt)
      obtain ⟨v0, hv0⟩ := hf.cell k (by omega)
      have hfr0 := hf.free k
      have HB := Lib.hid hb
      clear hc hb hf
      go_wp2
      go_roundw
      case rel => exact ⟨k + 1, by omega, by go_num, HST.out, HB.out.setCell (p := ⟨w.heap.size, k, none⟩) (Nat.le_refl _) _⟩
      case measure => simp [intOf]; omega
    · have hkn : k = n := by omega
      subst hkn
      rw [List.take_of_length_le (by omega)] at hf
      go_wp2
      go_ret
      exact ⟨w.heap.size, rfl, rfl, Fill.own (by rw [show (xs.map strCs).length = k by simp; exact HN.out]; exact hf) (by simp; exact HN.out) (by unfold maxLen; omega) (Nat.le_refl _) hf.lt, hb⟩

set_option maxRecDepth 100000 in
set_option maxHeartbeats 1000000 in
theorem eqStringS_same (A A' : Option Addr) (n c c' : Nat) (xs : List ByteArray) (B : Nat) (w : World) (hn : xs.length = n) (h : StrsB w B A xs) (h' : StrsB w B A' xs) (hB : B ≤ w.heap.size) (hl : n ≤ 1048576) :
    Calls Try.prog 68 #[.slice A n c, .slice A' n c'] w fun e w' => e = .returned (.bool true) ∧ Below w.heap.size w w' := by
  have hge := Nat.le_of_eq hn
  have hle := Nat.le_of_eq hn.symm
  have HS := Lib.hid h
  have HS' := Lib.hid h'
  clear hn h h'
  go_enter Try.func68, Try.ntmps68
  go_wp2
  go_loopw [5] (fun i wr => ∃ k m : Nat, k ≤ n ∧ i = .int .i64 k ∧ wr = w.drewN m) (fun i _ => n - (intOf i).toNat)
  case atStart => exact ⟨0, 0, by omega, rfl, rfl⟩
  case round =>
    obtain ⟨k, m, hk, rfl, rfl⟩ := hrel
    by_cases hlt : k < n
    · obtain ⟨b, off, rfl, hbB, hc⟩ := HS.out.get (by omega)
      obtain ⟨b', off', rfl, hbB', hc'⟩ := HS'.out.get (by omega)
      have hck := hc k (by omega)
      have hck' := hc' k (by omega)
      have hk0 : (0 : Int) ≤ (k : Int) := by omega
      have hkn : (k : Int) < (n : Int) := by omega
      clear hc hc'
      go_wp2_with fail
      go_quiet (fail)
      go_wp2
      go_roundw
      case rel => exact ⟨k + 1, m + nq, by omega, by go_num, rfl⟩
      case measure => simp [intOf]; omega
    · go_wp2
      go_ret
      exact ⟨rfl, below_drewN (Below.refl _ _) m⟩
end Go.Proofs.Ytkhndofplebcaaa
