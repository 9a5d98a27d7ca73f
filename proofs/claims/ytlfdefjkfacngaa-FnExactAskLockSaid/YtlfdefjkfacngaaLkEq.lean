/-
  Contracts for the laws' helpers that compare locks with equal ones.
-/
import Derived.Test.YtlfdefjkfacngaaLkMem
import Derived.Test.YtlfdefjkfacngaaTo
namespace Go.Proofs.Ytlfdefjkfacngaa.Lk
open Go.RowKit
set_option linter.unusedVariables false
set_option linter.unusedSimpArgs false
theorem eqLock_same (a : ByteArray) (b : Int) (g : Bool) (w : World) :
    Calls Try.prog 88 #[.agg #[.string a, .int .i64 b, .bool g], .agg #[.string a, .int .i64 b, .bool g]] w fun e w' => e = .returned (.bool true) ∧ Below w.heap.size w w' := by
  cases g <;>
  · go_enter Try.func88, Try.ntmps88
    go_wp2
    go_ret
    exact ⟨rfl, below2 _ _ _⟩

set_option maxRecDepth 100000 in
set_option maxHeartbeats 1000000 in
theorem eqLockS_same (A A' : Option Addr) (n c c' : Nat) (ws : List LK) (B : Nat) (w : World) (hn : ws.length = n) (h : LksB w B A ws) (h' : LksB w B A' ws) (hB : B ≤ w.heap.size) (hl : n ≤ 1048576) :
    Calls Try.prog 35 #[.slice A n c, .slice A' n c'] w fun e w' => e = .returned (.bool true) ∧ Below w.heap.size w w' := by
  have hge := Nat.le_of_eq hn
  have hle := Nat.le_of_eq hn.symm
  have HS := Lib.hid h
  have HS' := Lib.hid h'
  clear hn h h'
  go_enter Try.func35, Try.ntmps35
  go_wp2
  go_loopw [5] (fun i wr => ∃ k : Nat, k ≤ n ∧ i = .int .i64 k ∧ Below w.heap.size w wr) (fun i _ => n - (intOf i).toNat)
  case atStart => exact ⟨0, by omega, rfl, Below.refl _ _⟩
  case round =>
    obtain ⟨k, hk, rfl, hb⟩ := hrel
    by_cases hlt : k < n
    · obtain ⟨b, off, rfl, hbB, hc⟩ := HS.out.get (by omega)
      obtain ⟨b', off', rfl, hbB', hc'⟩ := HS'.out.get (by omega)
      obtain ⟨hc0, hc1, hc2⟩ := hc k (by omega)
      obtain ⟨hd0, hd1, hd2⟩ := hc' k (by omega)
      have c0 := (hb.cell (p := ⟨b, off + k * 3, none⟩) (Nat.lt_of_lt_of_le hbB hB)).trans hc0
      have c1 := (hb.cell (p := ⟨b, off + k * 3 + 1, none⟩) (Nat.lt_of_lt_of_le hbB hB)).trans hc1
      have c2 := (hb.cell (p := ⟨b, off + k * 3 + 2, none⟩) (Nat.lt_of_lt_of_le hbB hB)).trans hc2
      have d0 := (hb.cell (p := ⟨b', off' + k * 3, none⟩) (Nat.lt_of_lt_of_le hbB' hB)).trans hd0
      have d1 := (hb.cell (p := ⟨b', off' + k * 3 + 1, none⟩) (Nat.lt_of_lt_of_le hbB' hB)).trans hd1
      have d2 := (hb.cell (p := ⟨b', off' + k * 3 + 2, none⟩) (Nat.lt_of_lt_of_le hbB' hB)).trans hd2
      obtain ⟨y, hy⟩ : ∃ y, y = ws[k]'(by omega) := ⟨_, rfl⟩
      rw [← hy] at c0 c1 c2 d0 d1 d2
      obtain ⟨t, s, gb⟩ := y
      simp only at c0 c1 c2 d0 d1 d2
      have hk0 : (0 : Int) ≤ (k : Int) := by omega
      have hkn : (k : Int) < (n : Int) := by omega
      have hb1 : b < wr.heap.size := Nat.lt_of_lt_of_le hbB (Nat.le_trans hB hb.size)
      have hb2 : b' < wr.heap.size := Nat.lt_of_lt_of_le hbB' (Nat.le_trans hB hb.size)
      have HB := Lib.hid hb
      clear hc hc' hc0 hc1 hc2 hd0 hd1 hd2 hy hb
      go_wp2_with fail
      go_region_held3 (fun w' => w'.cell? ⟨b, off + k * 3, none⟩ = some (.string t) ∧ w'.cell? ⟨b, off + k * 3 + 1, none⟩ = some (.int .i64 s) ∧ w'.cell? ⟨b, off + k * 3 + 2, none⟩ = some (.bool gb) ∧ w'.cell? ⟨b', off' + k * 3, none⟩ = some (.string t) ∧ w'.cell? ⟨b', off' + k * 3 + 1, none⟩ = some (.int .i64 s) ∧ w'.cell? ⟨b', off' + k * 3 + 2, none⟩ = some (.bool gb))
        (first | exact ⟨c0, c1, c2, d0, d1, d2⟩ | (go_split_ands; exact ⟨kept2 hb4 c0 hb1, kept2 hb4 c1 hb1, kept2 hb4 c2 hb1, kept2 hb4 d0 hb2, kept2 hb4 d1 hb2, kept2 hb4 d2 hb2⟩))
        ((go_at_call 88; (with_reducible refine (eqLock_same _ _ _ _).mono ?_); rintro e w4 ⟨rfl, hb4⟩))
      have HBB := Lib.hid (Below.trans (b := wr.drew) HB.out.drew (hb4.mono HB.out.size))
      clear hb4
      go_wp2
      go_roundw
      case rel => exact ⟨k + 1, by omega, by go_num, HBB.out⟩
      case measure => simp [intOf]; omega
    · go_wp2
      go_ret
      exact ⟨rfl, hb⟩

end Go.Proofs.Ytlfdefjkfacngaa.Lk
