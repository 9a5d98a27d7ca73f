/-
  The walk of the exact law FallDisk.
-/
import Derived.Test.YtcjejbnogghkcaaDk5s
namespace Go.Proofs.Ytcjejbnogghkcaa.Dk
open Go.RowKit C1
set_option linter.unusedVariables false
set_option linter.unusedSimpArgs false

set_option maxRecDepth 100000 in
set_option maxHeartbeats 4000000 in
theorem fallDisk_walk (w : World) (k l : ByteArray) (hk : k.size ≤ maxLen) (hl : l.size ≤ maxLen) (n : Int) (hn : (Lit.int .i64 n).wf = true) (torn : Bool) :
    Calls Try.prog 12 #[.agg #[.string k, .string l], .int .i64 n, .bool torn] w fun e w' => e = .returned (.bool true) ∧ Below w.heap.size w w' := by
  by_cases h : k.size + l.size ≤ 1048576
  · skip
    have hk1 : k.size ≤ 1048576 := by omega
    have hl1 : l.size ≤ 1048576 := by omega
    have HZ := Lib.hid (fun W => szDisk_yes k l W h)
    have h0 : (0 : Int) ≤ 1048576 - (k.size : Int) - (l.size : Int) := by omega
    have HT := Lib.hid (fun W => toDisk_any k l W)
    have HS := Lib.hid (fun W => specFall_any k l n torn W hk1 hl1)
    have HI := Lib.hid (fun W => implFall_any k l n torn W hk1 hl1)
    obtain ⟨⟨a, b, ok⟩, hr⟩ : ∃ r, r = fallA k l n torn := ⟨_, rfl⟩
    rw [← hr] at HS HI
    simp only [DAns] at HS HI
    have HE := Lib.hid (fun W => eqDisk_same a b W)
    clear hr
    clear h hk1 hl1 hk hl hn
    go_enter Try.func12, Try.ntmps12
    go_wp2_with fail
    refine (HZ.out _).mono ?_
    rintro e w1 ⟨rfl, hb1⟩
    have B1 := (below1 _ _).trans (hb1.mono (below1 _ _).size)
    obtain ⟨hc, hf⟩ := bcell hb1
    go_wp2_with fail
    refine (HT.out _).mono ?_
    rintro e w2 ⟨rfl, hb2⟩
    have B2 := B1.trans (hb2.mono B1.size)
    have hb3 := hb1.trans (hb2.mono hb1.size)
    clear hc hf B1 hb1 hb2
    go_wp2_with fail
    refine (HS.out _).mono ?_
    rintro e w3 ⟨rfl, hb4⟩
    have B3 := B2.trans (hb4.mono B2.size)
    have hb5 := hb3.trans (hb4.mono hb3.size)
    clear hb4 B2 hb3
    have hb6 := hb5.alloc hb5.size (.cells #[.string a, .string b] 30)
    have B4 := B3.alloc B3.size (.cells #[.string a, .string b] 30)
    have hn := heap_alloc_new w3 (.cells #[.string a, .string b] 30)
    have hsz : w3.heap.size < (w3.alloc (.cells #[.string a, .string b] 30)).heap.size := by simp
    obtain ⟨W4, hW4⟩ : ∃ W4, W4 = w3.alloc (.cells #[.string a, .string b] 30) := ⟨_, rfl⟩
    rw [← hW4] at hb6 B4 hn hsz
    have HW4 := Lib.hid hW4
    obtain ⟨hc, hf⟩ := bcell hb5
    have hz : w.heap.size < w3.heap.size := by have := hb5.size; simp at this; omega
    clear hW4 hb5 B3
    go_wp2_with fail
    rw [← HW4.out]
    refine (HT.out _).mono ?_
    rintro e w5 ⟨rfl, hb7⟩
    have B5 := B4.trans (hb7.mono B4.size)
    have hb8 := hb6.trans (hb7.mono hb6.size)
    have hn5 := (hb7.block w3.heap.size hsz).trans hn
    have hsz5 := Nat.lt_of_lt_of_le hsz hb7.size
    clear hc hf hb7 B4 hb6 hn hsz HW4 hz
    go_wp2_with fail
    refine (HI.out _).mono ?_
    rintro e w6 ⟨rfl, hb9⟩
    have B6 := Lib.hid (B5.trans (hb9.mono B5.size))
    have hn6 := (hb9.block w3.heap.size hsz5).trans hn5
    have hsz6 := Nat.lt_of_lt_of_le hsz5 hb9.size
    have y0 := cell_of_row _ _ 0 _ 30 (0, 0) hn6
    have y1 := cell_of_row _ _ 1 _ 30 (0, 0) hn6
    clear hb8 hb9 B5 hn5 hn6 hsz5
    go_wp2_with fail
    refine (HE.out _).mono ?_
    rintro e w7 ⟨rfl, hb10⟩
    have B7 := Lib.hid ((B6.out.alloc B6.out.size _).trans (hb10.mono (B6.out.alloc B6.out.size _).size))
    clear hb10
    go_wp2
    go_ret
    exact ⟨rfl, B7.out⟩
  · have HZ := Lib.hid (fun W => szDisk_no k l W hk hl h)
    clear h hk hl hn
    go_enter Try.func12, Try.ntmps12
    go_wp2_with fail
    refine (HZ.out _).mono ?_
    rintro e w1 ⟨rfl, hb1⟩
    have B1 := (below1 _ _).trans (hb1.mono (below1 _ _).size)
    go_wp2
    go_ret
    exact ⟨rfl, B1⟩

end Go.Proofs.Ytcjejbnogghkcaa.Dk
