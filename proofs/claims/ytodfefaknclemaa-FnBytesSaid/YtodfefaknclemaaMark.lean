/-
  Contracts for the laws' helpers markText, markStringS and heldStringS.
-/
import Derived.Test.YtodfefaknclemaaStrs
import Derived.Deep.RegionHeld3
namespace Go.Proofs.Ytodfefaknclemaa
open Go.RowKit

/-- Decimal digits, ahead of acc; f bounds their number. -/
def digF : Nat → Nat → List UInt8 → List UInt8
  | 0, _, acc => acc
  | f + 1, n, acc => if n = 0 then acc else digF f (n / 10) (UInt8.ofNat (48 + n % 10) :: acc)
/-- The text that the laws lay for the number k. -/
def mark (k : Nat) : ByteArray := ⟨(109 :: digF 10 k []).toArray⟩
/-- n fits into f digits. -/
def Fits10 (f n : Nat) : Prop := n < 10 ^ f
theorem fits10_step {f n : Nat} (h : Fits10 f n) (hn : 0 < n) : ∃ f', f = f' + 1 ∧ Fits10 f' (n / 10) := by
  cases f with
  | zero => unfold Fits10 at h; omega
  | succ f =>
    refine ⟨f, rfl, ?_⟩
    unfold Fits10 at h ⊢
    rw [Nat.pow_succ] at h
    exact Nat.div_lt_of_lt_mul (by omega)
theorem digF_len (f n : Nat) (acc : List UInt8) : (digF f n acc).length ≤ acc.length + f := by
  induction f generalizing n acc with
  | zero => simp [digF]
  | succ f ih =>
    unfold digF
    split
    · omega
    · have := ih (n / 10) (UInt8.ofNat (48 + n % 10) :: acc); simp only [List.length_cons] at this; omega
theorem mark_size (k : Nat) : (mark k).size ≤ 11 := by
  unfold mark; rw [size_of_list]; have := digF_len 10 k []; simp only [List.length_cons, List.length_nil] at *; omega
theorem digF_done (f : Nat) (acc : List UInt8) : digF f 0 acc = acc := by cases f <;> simp [digF]
theorem digF_go (f n : Nat) (acc : List UInt8) (h : 0 < n) : digF (f + 1) n acc = digF f (n / 10) (UInt8.ofNat (48 + n % 10) :: acc) := by
  simp only [digF]; rw [if_neg (by omega)]
theorem digit_val (n : Nat) : ((UInt8.ofNat (48 + n % 10)).toNat : Int) = 48 + (n : Int) % 10 := by simp [UInt8.toNat_ofNat']; omega

/-- 'string([]byte{b})'. -/
theorem conv_one (w : World) (b : UInt8) (x : Int) (hx : (b.toNat : Int) = x) : (convert 22 9 (.slice (some ⟨w.heap.size, 0, none⟩) 1 1)).run Try.prog (w.alloc (.cells #[.int .u8 x] 5)) = .ok (.string ⟨#[b]⟩) (w.alloc (.cells #[.int .u8 x] 5)) := by
  subst hx
  refine run_convert_bytes_back (w.alloc (.cells #[.int .u8 (b.toNat : Int)] 5)) 22 9 5 ⟨w.heap.size, 0, none⟩ 1 [b] Try.underlying22 Try.underlying5 Try.underlying9 (fun j hj => ?_)
  have : j = 0 := by simp at hj; omega
  subst this
  exact one_at w _ 5 0 _ rfl

set_option maxRecDepth 100000 in
set_option maxHeartbeats 1000000 in
theorem mark_any (k : Nat) (w : World) (h1 : 1 ≤ k) (h2 : k ≤ 1000000000) :
    Calls Try.prog 76 #[.int .i64 (k : Int)] w fun e w' => e = .returned (.string (mark k)) ∧ Below w.heap.size w w' := by
  have hf0 : Fits10 10 k := by unfold Fits10; omega
  go_enter Try.func76, Try.ntmps76
  go_wp2
  go_loopw [0, 3] (fun n v wr => ∃ (f m : Nat) (acc : List UInt8), Hid (digF f m acc = digF 10 k []) ∧ Fits10 f m ∧ m ≤ 1000000000 ∧ n = .int .i64 (m : Int) ∧ v = .string ⟨acc.toArray⟩ ∧ acc.length + f ≤ 10 ∧ Below w.heap.size w wr) (fun n _ _ => (intOf n).toNat)
  case atStart => exact ⟨10, k, [], rfl, hf0, h2, rfl, rfl, by simp, Below.refl _ _⟩
  case round =>
    clear hf0
    obtain ⟨f, m, acc, HE, hf, hm, rfl, rfl, hlen, hb⟩ := hrel
    have hbs := hb.size
    by_cases hpos : 0 < m
    · obtain ⟨f', hff, hf'⟩ := fits10_step hf hpos
      have HFF := Lib.hid hff
      obtain ⟨b, hbd⟩ : ∃ b : UInt8, b = UInt8.ofNat (48 + m % 10) := ⟨_, rfl⟩
      have he : digF f' (m / 10) (b :: acc) = digF 10 k [] := by rw [← HE.out, HFF.out, digF_go f' m acc hpos, hbd]
      have HE' := Lib.hid he
      have hcv := fun (W : World) => conv_one W b (48 + (m : Int) % 10) (by rw [hbd]; exact digit_val m)
      have hadd := fun (W : World) => run_string_add_sum (P := Try.prog) (w := W) ⟨#[b]⟩ ⟨acc.toArray⟩ (by
        have e1 : (⟨#[b]⟩ : ByteArray).size = 1 := rfl
        have e2 := size_of_list acc
        omega)
      have e0 : (⟨#[b]⟩ : ByteArray) ++ ⟨acc.toArray⟩ = ⟨(b :: acc).toArray⟩ := by
        apply ByteArray.ext
        apply Array.ext'
        simp
      simp only [e0] at hadd
      clear hff he e0 hbd
      go_wp2
      go_roundw
      case rel => exact ⟨f', m / 10, b :: acc, HE'.out, hf', by omega, by go_num, by simp, by have := HFF.out; simp; omega, hb.alloc hbs _⟩
      case measure => simp [intOf]; omega
    · have h0 : m = 0 := by omega
      have hacc : acc = digF 10 k [] := by rw [← HE.out, h0, digF_done]
      have HA := Lib.hid hacc
      have hadd := fun (W : World) => run_string_add_sum (P := Try.prog) (w := W) ⟨#[109]⟩ ⟨acc.toArray⟩ (by
        have e1 : (⟨#[109]⟩ : ByteArray).size = 1 := rfl
        have e2 := size_of_list acc
        omega)
      have e0 : (⟨#[109]⟩ : ByteArray) ++ ⟨acc.toArray⟩ = mark k := by
        rw [hacc]
        unfold mark
        apply ByteArray.ext
        apply Array.ext'
        simp
      simp only [e0] at hadd
      clear h0 hacc e0
      go_wp2
      go_ret
      exact ⟨rfl, hb⟩

/-- The texts that the laws lay from the number k on. -/
def marks (k n : Nat) : List ByteArray := (List.range n).map fun i => mark (k + i)
theorem marks_len (k n : Nat) : (marks k n).length = n := by simp [marks]
theorem marks_at (k n i : Nat) (h : i < (marks k n).length) : (marks k n)[i] = mark (k + i) := by simp [marks]

/-- A block of n strings, whatever they are. -/
def Room (w : World) (g n : Nat) : Prop := ∃ cur : Array Value, w.heap[g]? = some (.cells cur 9 (0, 0)) ∧ cur.size = n
theorem Filling.room {w : World} {g n k : Nat} {xs : List ByteArray} (h : Filling w g n xs k) : Room w g n := by
  obtain ⟨cur, h1, h2, _⟩ := h
  exact ⟨cur, h1, h2⟩
theorem Room.fill {w : World} {g n : Nat} (h : Room w g n) (xs : List ByteArray) : Filling w g n xs 0 := by
  obtain ⟨cur, h1, h2⟩ := h
  exact ⟨cur, h1, h2, fun j _ hj => by omega⟩
theorem Filling.lt {w : World} {g n k : Nat} {xs : List ByteArray} (h : Filling w g n xs k) : g < w.heap.size := by
  obtain ⟨cur, h1, _⟩ := h
  exact (Array.getElem?_eq_some_iff.1 h1).1
theorem Filling.below {w w' : World} {g n k : Nat} {xs : List ByteArray} (h : Filling w g n xs k) (hb : Below w.heap.size w w') : Filling w' g n xs k := by
  have hlt := h.lt
  obtain ⟨cur, h1, h2, h3⟩ := h
  exact ⟨cur, (hb.block g hlt).trans h1, h2, h3⟩
theorem Room.below {w w' : World} {g n : Nat} (h : Room w g n) (hb : Below w.heap.size w w') : Room w' g n := by
  obtain ⟨cur, h1, h2⟩ := h
  exact ⟨cur, (hb.block g (Array.getElem?_eq_some_iff.1 h1).1).trans h1, h2⟩

set_option maxRecDepth 100000 in
set_option maxHeartbeats 1000000 in
theorem markS_zero (A : Option Addr) (c k : Nat) (w : World) :
    Calls Try.prog 47 #[.slice A 0 c, .int .i64 (k : Int)] w fun e w' => e = .returned (.int .i64 (k : Int)) ∧ w = w' := by
  go_enter Try.func47, Try.ntmps47
  go_wp2
  refine wp_loop_rounds 1 ?_
  rw [rounds_succ]
  go_wp2
  go_ret
  exact ⟨rfl, rfl⟩

set_option maxRecDepth 100000 in
set_option maxHeartbeats 1000000 in
theorem heldS_zero (A : Option Addr) (c k : Nat) (w : World) :
    Calls Try.prog 48 #[.slice A 0 c, .int .i64 (k : Int)] w fun e w' => e = .returned (.int .i64 (k : Int)) ∧ w = w' := by
  go_enter Try.func48, Try.ntmps48
  go_wp2
  refine wp_loop_rounds 1 ?_
  rw [rounds_succ]
  go_wp2
  go_ret
  exact ⟨rfl, rfl⟩

set_option maxRecDepth 100000 in
set_option maxHeartbeats 1000000 in
theorem markS_any (g n c k : Nat) (w : World) (h : Room w g n) (hk1 : 1 ≤ k) (hk : k ≤ 1000000) (hn : n ≤ 1048576) :
    Calls Try.prog 47 #[.slice (some ⟨g, 0, none⟩) n c, .int .i64 (k : Int)] w fun e w' => e = .returned (.int .i64 ((k + n : Nat) : Int)) ∧ Filling w' g n (marks k n) n ∧ w.grownBy w' (some g) := by
  have HF := Lib.hid (h.fill (marks k n))
  have HL := Lib.hid (marks_len k n)
  clear h
  go_enter Try.func47, Try.ntmps47
  go_wp2
  go_loopw [1, 5] (fun m i wr => ∃ j : Nat, j ≤ n ∧ i = .int .i64 j ∧ m = .int .i64 ((k + j : Nat) : Int) ∧ Filling wr g n (marks k n) j ∧ w.grownBy wr (some g)) (fun _ i _ => n - (intOf i).toNat)
  case atStart => exact ⟨0, by omega, rfl, rfl, HF.out, grown_refl _ _⟩
  case round =>
    obtain ⟨j, hj, rfl, rfl, hf, hG⟩ := hrel
    by_cases hlt : j < n
    · have HM := Lib.hid (fun W => mark_any (k + j) W (by omega) (by omega))
      have HAT := Lib.hid (marks_at k n j (by rw [HL.out]; exact hlt))
      go_wp2_with fail
      refine (HM.out _).mono ?_
      rintro e w1 ⟨rfl, hb1⟩
      have hf1 := hf.below hb1
      obtain ⟨v0, hv0⟩ := hf1.cell j hlt
      have hfr := hf1.free j
      have hst := hf1.store (by rw [HL.out]; exact hlt) hlt
      rw [HAT.out] at hst
      have hG1 := grown_below hG hb1
      go_wp2
      go_roundw
      case rel => exact ⟨j + 1, by omega, by go_num, by go_num, hst, grown_set hG1 rfl _⟩
      case measure => simp [intOf]; omega
    · have hjn : j = n := by omega
      subst hjn
      go_wp2
      go_ret
      exact ⟨rfl, hf, hG⟩

set_option maxRecDepth 100000 in
set_option maxHeartbeats 1000000 in
theorem heldS_any (g n c k : Nat) (w : World) (h : Filling w g n (marks k n) n) (hk1 : 1 ≤ k) (hk : k ≤ 1000000) (hn : n ≤ 1048576) :
    Calls Try.prog 48 #[.slice (some ⟨g, 0, none⟩) n c, .int .i64 (k : Int)] w fun e w' => e = .returned (.int .i64 ((k + n : Nat) : Int)) ∧ Below w.heap.size w w' := by
  have HF := Lib.hid h
  have HL := Lib.hid (marks_len k n)
  clear h
  go_enter Try.func48, Try.ntmps48
  go_wp2
  go_loopw [1, 5] (fun m i wr => ∃ j : Nat, j ≤ n ∧ i = .int .i64 j ∧ m = .int .i64 ((k + j : Nat) : Int) ∧ Below w.heap.size w wr) (fun _ i _ => n - (intOf i).toNat)
  case atStart => exact ⟨0, by omega, rfl, rfl, Below.refl _ _⟩
  case round =>
    obtain ⟨j, hj, rfl, rfl, hb⟩ := hrel
    by_cases hlt : j < n
    · have HM := Lib.hid (fun W => mark_any (k + j) W (by omega) (by omega))
      have HAT := Lib.hid (marks_at k n j (by rw [HL.out]; exact hlt))
      have hfw := HF.out.below hb
      have hgl := hfw.lt
      have hcell : wr.cell? ⟨g, j, none⟩ = some (.string (mark (k + j))) := by
        obtain ⟨cur, h1, h2, h3⟩ := hfw
        rw [cell_of_row wr g j cur 9 (0, 0) h1, ← HAT.out]
        exact h3 j (by rw [HL.out]; exact hlt) hlt
      have hj0 : (0 : Int) ≤ (j : Int) := by omega
      have hj1 : (j : Int) < (n : Int) := by omega
      obtain ⟨t, ht⟩ : ∃ t, t = mark (k + j) := ⟨_, rfl⟩
      rw [← ht] at hcell HM
      clear ht HAT hfw
      go_wp2_with fail
      go_region_held3 (fun w' => w'.cell? ⟨g, j, none⟩ = some (.string t))
        (first | go_keep | exact (hb2.cell (p := ⟨g, j, none⟩) hgl).trans hcell)
        ((go_at_call 76; refine (HM.out _).mono ?_; rintro e w2 ⟨rfl, hb2⟩))
      go_wp2
      go_roundw
      case rel => exact ⟨j + 1, by omega, by go_num, by go_num, Below.trans (b := wr.drew) hb.drew (hb2.mono hb.size)⟩
      case measure => simp [intOf]; omega
    · have hjn : j = n := by omega
      subst hjn
      go_wp2
      go_ret
      exact ⟨rfl, hb⟩
end Go.Proofs.Ytodfefaknclemaa
