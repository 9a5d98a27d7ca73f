/-
  Plain facts on reading a varint: what a reader makes of the bytes at an offset (readAt), and when the varint of what was read is what was read. No Go in sight; no condition.
-/
import Derived.Test.YtodfefaknclemaaMath2
namespace Go.Proofs.Ytodfefaknclemaa.M

/-- The number that little-endian groups of seven bits spell. -/
def vl : List UInt8 → Nat
  | [] => 0
  | c :: r => c.toNat % 128 + 128 * vl r
/-- All bytes but the last are 128 or more, the last is below 128. -/
def body : List UInt8 → Prop
  | [] => False
  | [c] => c.toNat < 128
  | c :: d :: r => 128 ≤ c.toNat ∧ body (d :: r)
def lastOf : List UInt8 → UInt8
  | [] => 0
  | [c] => c
  | _ :: d :: r => lastOf (d :: r)

theorem vl_snoc (l : List UInt8) (c : UInt8) : vl (l ++ [c]) = vl l + c.toNat % 128 * 128 ^ l.length := by
  induction l with
  | nil => simp [vl]
  | cons x l ih => simp only [List.cons_append, vl, ih, List.length_cons, Nat.pow_succ]; rw [Nat.mul_add]; rw [show 128 * (c.toNat % 128 * 128 ^ l.length) = c.toNat % 128 * (128 ^ l.length * 128) from by rw [Nat.mul_comm 128, Nat.mul_assoc]]; omega
theorem vl_lt (l : List UInt8) : vl l < 128 ^ l.length := by
  induction l with
  | nil => simp [vl]
  | cons x l ih => simp only [vl, List.length_cons, Nat.pow_succ]; omega
theorem vl_pos (l : List UInt8) (hb : body l) (h : (lastOf l).toNat ≠ 0) : 1 ≤ vl l := by
  induction l with
  | nil => exact hb.elim
  | cons c r ih =>
    cases r with
    | nil => simp only [body] at hb; simp only [lastOf] at h; simp only [vl]; omega
    | cons d r => simp only [vl]; have := ih hb.2 h; simp only [vl] at this; omega
theorem ofNat_toNat (c : UInt8) : UInt8.ofNat c.toNat = c := by simp
/-- A minimal encoding is the varint of what it spells. -/
theorem numF_vl (f : Nat) (l : List UInt8) (hb : body l) (hl : l.length ≤ f + 1) (h : l.length = 1 ∨ (lastOf l).toNat ≠ 0) : numF f (vl l) = l := by
  induction l generalizing f with
  | nil => exact hb.elim
  | cons c r ih =>
    cases r with
    | nil =>
      simp only [body] at hb
      have e : vl [c] = c.toNat := by simp [vl]; omega
      rw [e, numF_small f _ hb, ofNat_toNat]
    | cons d r =>
      have hlast : (lastOf (d :: r)).toNat ≠ 0 := by rcases h with h | h; · simp at h
                                                     · exact h
      have hp := vl_pos (d :: r) hb.2 hlast
      have h1 := hb.1
      have hc := c.toNat_lt
      obtain ⟨f', rfl⟩ : ∃ f', f = f' + 1 := ⟨f - 1, by simp at hl; omega⟩
      have e : vl (c :: d :: r) = c.toNat % 128 + 128 * vl (d :: r) := rfl
      rw [e]
      rw [numF_step f' _ (by omega)]
      have e1 : (c.toNat % 128 + 128 * vl (d :: r)) % 128 + 128 = c.toNat := by omega
      have e2 : (c.toNat % 128 + 128 * vl (d :: r)) / 128 = vl (d :: r) := by omega
      rw [e1, e2, ofNat_toNat, ih f' hb.2 (by simp at hl ⊢; omega) (.inr hlast)]
theorem lastOf_numF (f n : Nat) (hf : Fits f n) : (lastOf (numF f n)).toNat < 128 ∧ (1 ≤ n → (lastOf (numF f n)).toNat ≠ 0) := by
  induction f generalizing n with
  | zero => unfold Fits at hf; simp [numF, lastOf, UInt8.toNat_ofNat']; omega
  | succ f ih =>
    by_cases h : n < 128
    · rw [numF_small _ _ h]; simp [lastOf, UInt8.toNat_ofNat']; omega
    · obtain ⟨f', e, h'⟩ := fits_pos _ _ hf (by omega)
      have e' : f = f' := by omega
      subst e'
      rw [numF_step f n (by omega)]
      have := ih (n / 128) h'
      have hne := (numF_len f (n / 128)).2
      cases hq : numF f (n / 128) with
      | nil => rw [hq] at hne; simp at hne
      | cons d r => rw [hq] at this; exact ⟨this.1, fun _ => this.2 (by omega)⟩
/-- An encoding of two bytes or more whose last byte is zero is no varint. -/
theorem numB_ne_zero (n : Nat) (hn : n ≤ 1000000000) (l : List UInt8) (hl : 2 ≤ l.length) (h : (lastOf l).toNat = 0) : numB n ≠ l := by
  intro e
  have hL := lastOf_numF 9 n (fits_max n hn)
  change (lastOf (numB n)).toNat < 128 ∧ (1 ≤ n → (lastOf (numB n)).toNat ≠ 0) at hL
  rw [e] at hL
  rcases Nat.eq_zero_or_pos n with h0 | h0
  · subst h0
    have : numB 0 = [0] := rfl
    rw [this] at e
    rw [← e] at hl
    simp at hl
  · exact hL.2 h0 h
/-- A list whose last byte is 128 or more is no varint. -/
theorem numB_ne_high (n : Nat) (hn : n ≤ 1000000000) (l : List UInt8) (h : 128 ≤ (lastOf l).toNat) : numB n ≠ l := by
  intro e
  have hL := (lastOf_numF 9 n (fits_max n hn)).1
  change (lastOf (numB n)).toNat < 128 at hL
  rw [e] at hL
  omega
end Go.Proofs.Ytodfefaknclemaa.M
namespace Go.Proofs.Ytodfefaknclemaa.M
/-- The first place of a byte below 128, among the next f places from k on. -/
def scan (d : List UInt8) : Nat → Nat → Option Nat
  | 0, _ => none
  | f + 1, k => if k < d.length then (if (d.getD k 0).toNat < 128 then some k else scan d f (k + 1)) else none
/-- What a reader of a varint makes of the bytes d that begin at offset q: the number, the offset behind it, whether there is one. -/
def readAt (d : List UInt8) (q : Nat) : Nat × Nat × Bool :=
  match scan d 5 0 with
  | none => (0, 0, false)
  | some k => if vl (d.take (k + 1)) ≤ 1000000000 ∧ (k = 0 ∨ (d.getD k 0).toNat ≠ 0) then (vl (d.take (k + 1)), q + k + 1, true) else (0, 0, false)
def readNum (l : List UInt8) (q : Nat) : Nat × Nat × Bool := readAt (l.drop q) q
/-- The first k bytes are 128 or more. -/
def High (d : List UInt8) (k : Nat) : Prop := ∀ j, j < k → 128 ≤ (d.getD j 0).toNat

theorem High.step {d : List UInt8} {k : Nat} (h : High d k) (hk : 128 ≤ (d.getD k 0).toNat) : High d (k + 1) := by
  intro j hj
  rcases Nat.lt_or_ge j k with h1 | h1
  · exact h j h1
  · have : j = k := by omega
    subst this; exact hk
theorem scan_high (d : List UInt8) (k : Nat) (h : High d k) (hk : k ≤ 5) (hl : k ≤ d.length) : scan d 5 0 = scan d (5 - k) k := by
  induction k with
  | zero => rfl
  | succ k ih =>
    rw [ih (fun j hj => h j (by omega)) (by omega) (by omega)]
    obtain ⟨f, hf⟩ : ∃ f, 5 - k = f + 1 := ⟨4 - k, by omega⟩
    rw [hf, show 5 - (k + 1) = f from by omega]
    have := h k (by omega)
    simp only [scan]
    rw [if_pos (by omega), if_neg (by omega)]
theorem read_end (d : List UInt8) (q k : Nat) (h : High d k) (hk : k ≤ 5) (hl : k ≤ d.length) (he : k = 5 ∨ k = d.length) : readAt d q = (0, 0, false) := by
  have hs : scan d 5 0 = none := by
    rw [scan_high d k h hk hl]
    rcases he with rfl | he
    · rfl
    · cases hf : 5 - k with
      | zero => rfl
      | succ f => simp only [scan]; rw [if_neg (by omega)]
  simp [readAt, hs]
theorem read_stop (d : List UInt8) (q k : Nat) (h : High d k) (hk : k < 5) (hl : k < d.length) (hb : (d.getD k 0).toNat < 128) :
    readAt d q = if vl (d.take (k + 1)) ≤ 1000000000 ∧ (k = 0 ∨ (d.getD k 0).toNat ≠ 0) then (vl (d.take (k + 1)), q + k + 1, true) else (0, 0, false) := by
  have hs : scan d 5 0 = some k := by
    rw [scan_high d k h (by omega) (by omega)]
    obtain ⟨f, hf⟩ : ∃ f, 5 - k = f + 1 := ⟨4 - k, by omega⟩
    rw [hf]
    simp only [scan]
    rw [if_pos hl, if_pos hb]
  simp [readAt, hs]
theorem take_getD (d : List UInt8) (k : Nat) (hl : k < d.length) : d.take (k + 1) = d.take k ++ [d.getD k 0] := by
  rw [take_snoc d k hl]; simp [List.getD, List.getElem?_eq_getElem hl]
theorem vl_take (d : List UInt8) (k : Nat) (hl : k < d.length) : vl (d.take (k + 1)) = vl (d.take k) + (d.getD k 0).toNat % 128 * 128 ^ k := by
  rw [take_getD d k hl, vl_snoc, List.length_take, Nat.min_eq_left (by omega)]
theorem lastOf_snoc (l : List UInt8) (c : UInt8) : lastOf (l ++ [c]) = c := by
  induction l with
  | nil => rfl
  | cons x l ih =>
    cases l with
    | nil => rfl
    | cons y l => exact ih
theorem body_snoc (l : List UInt8) (c : UInt8) (h : ∀ x ∈ l, 128 ≤ x.toNat) (hc : c.toNat < 128) : body (l ++ [c]) := by
  induction l with
  | nil => exact hc
  | cons x l ih =>
    have := ih (fun y hy => h y (by simp [hy]))
    cases l with
    | nil => exact ⟨h x (by simp), hc⟩
    | cons y l => exact ⟨h x (by simp), this⟩
theorem high_mem (d : List UInt8) (k : Nat) (h : High d k) : ∀ x ∈ d.take k, 128 ≤ x.toNat := by
  intro x hx
  obtain ⟨j, hj, rfl⟩ := List.mem_iff_getElem.1 hx
  simp only [List.length_take] at hj
  have := h j (by omega)
  rw [List.getElem_take]
  simpa [List.getD, List.getElem?_eq_getElem (show j < d.length by omega)] using this
/-- The model's test: the varint of what was read is what was read, exactly where the last byte is not a superfluous zero. -/
theorem canon_yes (d : List UInt8) (k : Nat) (h : High d k) (hk : k < 5) (hl : k < d.length) (hb : (d.getD k 0).toNat < 128) (hz : k = 0 ∨ (d.getD k 0).toNat ≠ 0) : numB (vl (d.take (k + 1))) = d.take (k + 1) := by
  refine numF_vl 9 _ ?_ ?_ ?_
  · rw [take_getD d k hl]; exact body_snoc _ _ (high_mem d k h) hb
  · simp; omega
  · rcases hz with rfl | hz
    · left; simp; omega
    · right; rw [take_getD d k hl, lastOf_snoc]; exact hz
theorem canon_no (d : List UInt8) (k : Nat) (hl : k < d.length) (hz : ¬ (k = 0 ∨ (d.getD k 0).toNat ≠ 0)) (n : Nat) (hn : n ≤ 1000000000) : numB n ≠ d.take (k + 1) :=
  numB_ne_zero n hn _ (by simp; omega) (by rw [take_getD d k hl, lastOf_snoc]; omega)
theorem canon_high (d : List UInt8) (k : Nat) (h : High d k) (h0 : 0 < k) (hl : k ≤ d.length) (n : Nat) (hn : n ≤ 1000000000) : numB n ≠ d.take k := by
  obtain ⟨k', rfl⟩ : ∃ k', k = k' + 1 := ⟨k - 1, by omega⟩
  exact numB_ne_high n hn _ (by rw [take_getD d k' (by omega), lastOf_snoc]; exact h k' (by omega))
/-- Bounds of what is read. -/
theorem read_bounds (d : List UInt8) (q n x : Nat) (h : readAt d q = (n, x, true)) : n ≤ 1000000000 ∧ q < x ∧ x ≤ q + 5 ∧ x ≤ q + d.length := by
  unfold readAt at h
  cases hs : scan d 5 0 with
  | none => rw [hs] at h; simp at h
  | some k =>
    rw [hs] at h
    have hk : ∀ f i, scan d f i = some k → k < i + f ∧ k < d.length := by
      intro f
      induction f with
      | zero => intro i hi; simp [scan] at hi
      | succ f ih =>
        intro i hi
        simp only [scan] at hi
        split at hi
        · split at hi
          · simp at hi; omega
          · have := ih (i + 1) hi; omega
        · simp at hi
    have := hk 5 0 hs
    simp only at h
    split at h
    · simp only [Prod.mk.injEq] at h; omega
    · simp at h
theorem read_false (d : List UInt8) (q n x : Nat) (h : readAt d q = (n, x, false)) : n = 0 ∧ x = 0 := by
  unfold readAt at h
  split at h
  · simp only [Prod.mk.injEq] at h; omega
  · split at h
    · simp at h
    · simp only [Prod.mk.injEq] at h; omega
end Go.Proofs.Ytodfefaknclemaa.M
