/-
  The contract for the laws' helper markText.
-/
import Derived.Test.YtpppgihoekfmoaaMem
namespace Go.Proofs.Ytpppgihoekfmoaa
open Go.RowKit
set_option linter.unusedVariables false

theorem one_at (w : World) (x : Value) (t : TypeId) : ∀ j u, [x][j]? = some u → (w.alloc (.cells #[x] t)).cell? ((⟨w.heap.size, 0, none⟩ : Addr).add j) = some u := by
  intro j u hj
  match j, hj with
  | 0, hj => simp at hj; subst hj; simp [Addr.add]
theorem size_of_list (l : List UInt8) : (⟨l.toArray⟩ : ByteArray).size = l.length := by simp [ByteArray.size]
/-- Decimal digits, ahead of acc; f bounds their number. -/
def digF : Nat → Nat → List UInt8 → List UInt8
  | 0, _, acc => acc
  | f + 1, n, acc => if n = 0 then acc else digF f (n / 10) (UInt8.ofNat (48 + n % 10) :: acc)
/-- The text that the laws lay for the number k. -/
def mark (k : Nat) : ByteArray := ⟨(109 :: digF 10 k []).toArray⟩
/-- n fits into f digits. -/
def Fits10 (f n : Nat) : Prop := n < 10 ^ f
theorem fits10_step {f n : Nat} (h : Fits10 f n) (hn : 0 < n) : ∃ f', f = f' + 1 ∧ Fits10 f' (n / 10) := by
  cases f with
  | zero => unfold Fits10 at h; omega
  | succ f =>
    refine ⟨f, rfl, ?_⟩
    unfold Fits10 at h ⊢
    rw [Nat.pow_succ] at h
    exact Nat.div_lt_of_lt_mul (by omega)
theorem digF_len (f n : Nat) (acc : List UInt8) : (digF f n acc).length ≤ acc.length + f := by
  induction f generalizing n acc with
  | zero => simp [digF]
  | succ f ih =>
    unfold digF
    split
    · omega
    · have := ih (n / 10) (UInt8.ofNat (48 + n % 10) :: acc); simp only [List.length_cons] at this; omega
theorem mark_size (k : Nat) : (mark k).size ≤ 11 := by
  unfold mark; rw [size_of_list]; have := digF_len 10 k []; simp only [List.length_cons, List.length_nil] at *; omega
theorem digF_done (f : Nat) (acc : List UInt8) : digF f 0 acc = acc := by cases f <;> simp [digF]
theorem digF_go (f n : Nat) (acc : List UInt8) (h : 0 < n) : digF (f + 1) n acc = digF f (n / 10) (UInt8.ofNat (48 + n % 10) :: acc) := by
  simp only [digF]; rw [if_neg (by omega)]
theorem digit_val (n : Nat) : ((UInt8.ofNat (48 + n % 10)).toNat : Int) = 48 + (n : Int) % 10 := by simp [UInt8.toNat_ofNat']; omega

/-- 'string([]byte{b})'. -/
theorem conv_one (w : World) (b : UInt8) (x : Int) (hx : (b.toNat : Int) = x) : (convert 22 9 (.slice (some ⟨w.heap.size, 0, none⟩) 1 1)).run Try.prog (w.alloc (.cells #[.int .u8 x] 5)) = .ok (.string ⟨#[b]⟩) (w.alloc (.cells #[.int .u8 x] 5)) := by
  subst hx
  refine run_convert_bytes_back (w.alloc (.cells #[.int .u8 (b.toNat : Int)] 5)) 22 9 5 ⟨w.heap.size, 0, none⟩ 1 [b] Try.underlying22 Try.underlying5 Try.underlying9 (fun j hj => ?_)
  have : j = 0 := by simp at hj; omega
  subst this
  exact one_at w _ 5 0 _ rfl

end Go.Proofs.Ytpppgihoekfmoaa
