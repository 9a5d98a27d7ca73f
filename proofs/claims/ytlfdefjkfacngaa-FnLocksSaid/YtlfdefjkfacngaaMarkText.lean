/-
  The contract for the laws' helper markText.
-/
import Derived.Test.YtlfdefjkfacngaaMem
namespace Go.Proofs.Ytlfdefjkfacngaa
open Go.RowKit
set_option linter.unusedVariables false

theorem one_at (w : World) (x : Value) (t : TypeId) : ∀ j u, [x][j]? = some u → (w.alloc (.cells #[x] t)).cell? ((⟨w.heap.size, 0, none⟩ : Addr).add j) = some u := by
  intro j u hj
  match j, hj with
  | 0, hj => simp at hj; subst hj; simp [Addr.add]
theorem size_of_list (l : List UInt8) : (⟨l.toArray⟩ : ByteArray).size = l.length := by simp [ByteArray.size]
/-- Decimal digits, ahead of acc; f bounds their number. -/
def digF : Nat → Nat → List UInt8 → List UInt8
  | 0, _, acc => acc
  | f + 1, n, acc => if n = 0 then acc else digF f (n / 10) (UInt8.ofNat (48 + n % 10) :: acc)
/-- The text that the laws lay for the number k. -/
def mark (k : Nat) : ByteArray := ⟨(109 :: digF 10 k []).toArray⟩
/-- n fits into f digits. -/
def Fits10 (f n : Nat) : Prop := n < 10 ^ f
theorem fits10_step {f n : Nat} (h : Fits10 f n) (hn : 0 < n) : ∃ f', f = f' + 1 ∧ Fits10 f' (n / 10) := by
  cases f with
  | zero => unfold Fits10 at h; omega
  | succ f =>
    refine ⟨f, rfl, ?_⟩
    unfold Fits10 at h ⊢
    rw [Nat.pow_succ] at h
    exact Nat.div_lt_of_lt_mul (by omega)
theorem digF_len (f n : Nat) (acc : List UInt8) : (digF f n acc).length ≤ acc.length + f := by
  induction f generalizing n acc with
  | zero => simp [digF]
  | succ f ih =>
    unfold digF
    split
    · omega
    · have := ih (n / 10) (UInt8.ofNat (48 + n % 10) :: acc); simp only [List.length_cons] at this; omega
theorem mark_size (k : Nat) : (mark k).size ≤ 11 := by
  unfold mark; rw [size_of_list]; have := digF_len 10 k []; simp only [List.length_cons, List.length_nil] at *; omega
theorem digF_done (f : Nat) (acc : List UInt8) : digF f 0 acc = acc := by cases f <;> simp [digF]
theorem digF_go (f n : Nat) (acc : List UInt8) (h : 0 < n) : digF (f + 1) n acc = digF f (n / 10) (UInt8.ofNat (48 + n % 10) :: acc) := by
  simp only [digF]; rw [if_neg (by omega)]
theorem digit_val (n : Nat) : ((UInt8.ofNat (48 + n % 10)).toNat : Int) = 48 + (n : Int) % 10 := by simp [UInt8.toNat_ofNat']; omega

/-- 'string([]byte{b})'. -/
theorem conv_one (w : World) (b : UInt8) (x : Int) (hx : (b.toNat : Int) = x) : (convert 22 9 (.slice (some ⟨w.heap.size, 0, none⟩) 1 1)).run Try.prog (w.alloc (.cells #[.int .u8 x] 5)) = .ok (.string ⟨#[b]⟩) (w.alloc (.cells #[.int .u8 x] 5)) := by
  subst hx
  refine run_convert_bytes_back (w.alloc (.cells #[.int .u8 (b.toNat : Int)] 5)) 22 9 5 ⟨w.heap.size, 0, none⟩ 1 [b] Try.underlying22 Try.underlying5 Try.underlying9 (fun j hj => ?_)
  have : j = 0 := by simp at hj; omega
  subst this
  exact one_at w _ 5 0 _ rfl

set_option maxRecDepth 100000 in
set_option maxHeartbeats 1000000 in
theorem mark_any (k : Nat) (w : World) (h1 : 1 ≤ k) (h2 : k ≤ 1000000000) :
    Calls Try.prog 89 #[.int .i64 (k : Int)] w fun e w' => e = .returned (.string (mark k)) ∧ Below w.heap.size w w' := by
  have hf0 : Fits10 10 k := by unfold Fits10; omega
  go_enter Try.func89, Try.ntmps89
  go_wp2
  go_loopw [0, 3] (fun n v wr => ∃ (f m : Nat) (acc : List UInt8), Hid (digF f m acc = digF 10 k []) ∧ Fits10 f m ∧ m ≤ 1000000000 ∧ n = .int .i64 (m : Int) ∧ v = .string ⟨acc.toArray⟩ ∧ acc.length + f ≤ 10 ∧ Below w.heap.size w wr) (fun n _ _ => (intOf n).toNat)
  case atStart => exact ⟨10, k, [], rfl, hf0, h2, rfl, rfl, by simp, Below.refl _ _⟩
  case round =>
    clear hf0
    obtain ⟨f, m, acc, HE, hf, hm, rfl, rfl, hlen, hb⟩ := hrel
    have hbs := hb.size
    by_cases hpos : 0 < m
    · obtain ⟨f', hff, hf'⟩ := fits10_step hf hpos
      have HFF := Lib.hid hff
      obtain ⟨b, hbd⟩ : ∃ b : UInt8, b = UInt8.ofNat (48 + m % 10) := ⟨_, rfl⟩
      have he : digF f' (m / 10) (b :: acc) = digF 10 k [] := by rw [← HE.out, HFF.out, digF_go f' m acc hpos, hbd]
      have HE' := Lib.hid he
      have hcv := fun (W : World) => conv_one W b (48 + (m : Int) % 10) (by rw [hbd]; exact digit_val m)
      have hadd := fun (W : World) => run_string_add_sum (P := Try.prog) (w := W) ⟨#[b]⟩ ⟨acc.toArray⟩ (by
        have e1 : (⟨#[b]⟩ : ByteArray).size = 1 := rfl
        have e2 := size_of_list acc
        omega)
      have e0 : (⟨#[b]⟩ : ByteArray) ++ ⟨acc.toArray⟩ = ⟨(b :: acc).toArray⟩ := by
        apply ByteArray.ext
        apply Array.ext'
        simp
      simp only [e0] at hadd
      clear hff he e0 hbd
      go_wp2
      go_roundw
      case rel => exact ⟨f', m / 10, b :: acc, HE'.out, hf', by omega, by go_num, by simp, by have := HFF.out; simp; omega, hb.alloc hbs _⟩
      case measure => simp [intOf]; omega
    · have h0 : m = 0 := by omega
      have hacc : acc = digF 10 k [] := by rw [← HE.out, h0, digF_done]
      have HA := Lib.hid hacc
      have hadd := fun (W : World) => run_string_add_sum (P := Try.prog) (w := W) ⟨#[109]⟩ ⟨acc.toArray⟩ (by
        have e1 : (⟨#[109]⟩ : ByteArray).size = 1 := rfl
        have e2 := size_of_list acc
        omega)
      have e0 : (⟨#[109]⟩ : ByteArray) ++ ⟨acc.toArray⟩ = mark k := by
        rw [hacc]
        unfold mark
        apply ByteArray.ext
        apply Array.ext'
        simp
      simp only [e0] at hadd
      clear h0 hacc e0
      go_wp2
      go_ret
      exact ⟨rfl, hb⟩

end Go.Proofs.Ytlfdefjkfacngaa
