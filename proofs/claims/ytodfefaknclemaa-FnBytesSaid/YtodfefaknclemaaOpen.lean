/-
  Contracts for splitSeal and OpenSeal of the program, OpenSeal of the model.
-/
import Derived.Test.YtodfefaknclemaaSeal
import Derived.Deep.QuietTactic
import Derived.BigQuiet
import Derived.BigRegion
import Derived.Deep.RegionHeld3
import Derived.Laws.StructEq
import Derived.ChangeKeysEq
import Derived.Lib.Strings
namespace Go.Proofs.Ytodfefaknclemaa
open Go.RowKit

set_option maxRecDepth 100000 in
set_option maxHeartbeats 2000000 in
theorem split_any (g : Nat) (n L c : Nat) (d0 d1 d2 : Int) (w : World) (hL : n + 3 = L) (hc : n + 3 ≤ c) (hn : n + 3 ≤ 6000)
    (h0 : w.cell? ⟨g, n, none⟩ = some (.int .u8 d0)) (h1 : w.cell? ⟨g, n + 1, none⟩ = some (.int .u8 d1)) (h2 : w.cell? ⟨g, n + 2, none⟩ = some (.int .u8 d2)) :
    Calls Try.prog 69 #[.slice (some ⟨g, 0, none⟩) L c] w fun e w' => e = .returned (.tuple #[.slice (some ⟨g, 0, none⟩) n n, .agg #[.int .u8 d0, .int .u8 d1, .int .u8 d2]]) ∧ Below w.heap.size w w' := by
  subst hL
  have hn0 : (0 : Int) ≤ (n : Int) := by omega
  have hn1 : (n : Int) ≤ (c : Int) := by omega
  have hgl := World.block_lt_of_cell? w _ h0
  go_enter Try.func69, Try.ntmps69
  go_wp2_with fail
  go_region
  go_wp2
  exact bodyPost_ret (v := .tuple #[.slice (some ⟨g, 0, none⟩) n n, .agg #[.int .u8 d0, .int .u8 d1, .int .u8 d2]]) (by simp [results, Try.results69, go_sem]) rfl ⟨rfl, ((Below.refl _ _).alloc (Nat.le_refl _) _).drew⟩

/-- A part of an array of bytes. -/
theorem part_u8 (w : World) (xs : Array Value) (i : Nat) (v : Value) (hv : xs[i]? = some v) : (part 5 xs i).run Try.prog w = .ok v w := by
  have h5 := Try.isAgg5
  simp [part, h5, hv, go_sem]
theorem eq_seal (w : World) (a0 a1 a2 b0 b1 b2 : Int) :
    (Op.equalIn 10000 69 (.agg #[.int .u8 a0, .int .u8 a1, .int .u8 a2]) (.agg #[.int .u8 b0, .int .u8 b1, .int .u8 b2])).run Try.prog w = .ok (a0 == b0 && a1 == b1 && a2 == b2) w := by
  have h69 : Try.prog.underlying 69 = some (.array 3 5) := by kernel_rfl
  obtain ⟨i0, hi, hz0, hz1, hz2⟩ := info_parts info5
  have hc : Try.prog.cellsOf 5 = 1 := by kernel_rfl
  have hr : List.range 3 = [0, 1, 2] := rfl
  have hq : ∀ x y : Int, (Op.equalIn 9999 5 (.int .u8 x) (.int .u8 y)).run Try.prog w = .ok (x == y) w := fun x y => run_equalIn_int w 9998 5 .u8 .u8 x y Try.underlying5
  rw [show (10000 : Nat) = 9999 + 1 from rfl, run_equalIn_array w 9999 _ _ h69 hi, hc, hr]
  simp only [Op.eqItems, Sem.run_bind, Nat.mul_one]
  rw [part_u8 w _ 0 (.int .u8 a0) rfl]
  simp only [Result.andThen_ok]
  rw [part_u8 w _ 0 (.int .u8 b0) rfl]
  simp only [Result.andThen_ok, hq]
  cases h0 : (a0 == b0)
  · simp
  · simp only [Bool.not_true, Bool.false_eq_true, if_false, Sem.run_bind]
    rw [part_u8 w _ 1 (.int .u8 a1) rfl]
    simp only [Result.andThen_ok]
    rw [part_u8 w _ 1 (.int .u8 b1) rfl]
    simp only [Result.andThen_ok, hq]
    cases h1 : (a1 == b1)
    · simp
    · simp only [Bool.not_true, Bool.false_eq_true, if_false, Sem.run_bind]
      rw [part_u8 w _ 2 (.int .u8 a2) rfl]
      simp only [Result.andThen_ok]
      rw [part_u8 w _ 2 (.int .u8 b2) rfl]
      simp only [Result.andThen_ok, hq]
      cases h2 : (a2 == b2) <;> simp

theorem ofNat_eq (k : Nat) (hk : k < 256) (d : UInt8) : UInt8.ofNat k = d ↔ (d.toNat : Int) = (k : Int) := by
  constructor
  · rintro rfl; exact b8_of k hk
  · intro h
    apply UInt8.toNat_inj.1
    have := b8_of k hk
    omega
theorem seal_eq (d0 d1 d2 : UInt8) (m : Nat) (hm : m < 16000057) :
    (((d0.toNat : Int) == (m : Int) / 65536) && ((d1.toNat : Int) == (m : Int) / 256 % 256) && ((d2.toNat : Int) == (m : Int) % 256)) = decide (three m = [d0, d1, d2]) := by
  rw [Bool.eq_iff_iff]
  simp only [Bool.and_eq_true, beq_iff_eq, decide_eq_true_eq, three, List.cons.injEq, and_true]
  rw [ofNat_eq _ (by omega), ofNat_eq _ (by omega), ofNat_eq _ (by omega)]
  simp [and_assoc]
/-- The last three bytes. -/
theorem drop_three (l : List UInt8) (n : Nat) (h : l.length = n + 3) : l.drop n = [l[n]'(by omega), l[n + 1]'(by omega), l[n + 2]'(by omega)] := by
  rw [List.drop_eq_getElem_cons (by omega), List.drop_eq_getElem_cons (by omega), List.drop_eq_getElem_cons (by omega), List.drop_of_length_le (by omega)]
/-- The last three bytes are the seal of the others. -/
def OkSeal (s : ByteArray) (n : Nat) : Prop := three (M.sumL (s.data.toList.take n)) = s.data.toList.drop n

/-- The byte at j of a row that '[]byte(s)' laid. -/
theorem SRow.byte {W : World} {g cap : Nat} {s : ByteArray} (h : SRow W g s cap) (j : Nat) (hj : j < s.data.toList.length) : W.cell? ⟨g, j, none⟩ = some (.int .u8 (s.data.toList[j].toNat : Int)) := by
  have := h.olds j (.int .u8 (s.data.toList[j].toNat : Int)) (by simp [B8, List.getElem?_eq_getElem hj])
  rwa [Nat.zero_add] at this
theorem SRow.head {W : World} {g cap : Nat} {s : ByteArray} (h : SRow W g s cap) (n : Nat) : BytesAt W (some ⟨g, 0, none⟩) (s.data.toList.take n) := by
  refine .inr ⟨g, 0, rfl, h.lt, fun k hk => ?_⟩
  simp only [List.length_take] at hk
  rw [Nat.zero_add, h.byte k (by omega), List.getElem_take]

/-- 'string(body)' of the first n bytes. -/
theorem SRow.conv_head {W : World} {g cap : Nat} {s : ByteArray} (h : SRow W g s cap) (n : Nat) (hn : n ≤ s.data.toList.length) :
    (convert 22 9 (.slice (some ⟨g, 0, none⟩) n n)).run Try.prog W = .ok (.string ⟨(s.data.toList.take n).toArray⟩) W := by
  have hl : (s.data.toList.take n).length = n := by rw [List.length_take]; omega
  have := run_convert_bytes_back W 22 9 5 ⟨g, 0, none⟩ n (s.data.toList.take n) Try.underlying22 Try.underlying5 Try.underlying9 (fun j hj => by
    have hadd : (⟨g, 0, none⟩ : Addr).add j = ⟨g, j, none⟩ := by unfold Addr.add; split <;> simp_all
    rw [hl] at hj
    rw [hadd, h.byte j (by omega), List.getElem_take])
  rwa [hl] at this
theorem SRow.drew {W : World} {g cap : Nat} {s : ByteArray} (h : SRow W g s cap) : SRow W.drew g s cap := h

set_option maxRecDepth 100000 in
set_option maxHeartbeats 2000000 in
theorem implOpen_yes (s : ByteArray) (w : World) (n : Nat) (hn : n + 3 = s.size) (hs : s.size ≤ 6000) (hok : OkSeal s n) :
    Calls Try.prog 37 #[.string s] w fun e w' => e = .returned (.tuple #[.string ⟨(s.data.toList.take n).toArray⟩, .bool true]) ∧ Below w.heap.size w w' := by
  obtain ⟨cap, w1, hconv, hrow, hcap, hbel, hsz⟩ := conv_bytes s w
  have hdl : s.data.toList.length = s.size := by simp
  have hR1 : SRow w1 w.heap.size s cap := ⟨hcap, hrow⟩
  unfold OkSeal at hok
  rw [drop_three _ n (by omega)] at hok
  obtain ⟨d0, hd0⟩ : ∃ d : UInt8, d = s.data.toList[n]'(by omega) := ⟨_, rfl⟩
  obtain ⟨d1, hd1⟩ : ∃ d : UInt8, d = s.data.toList[n + 1]'(by omega) := ⟨_, rfl⟩
  obtain ⟨d2, hd2⟩ : ∃ d : UInt8, d = s.data.toList[n + 2]'(by omega) := ⟨_, rfl⟩
  have hb0 := hR1.byte n (by omega)
  have hb1 := hR1.byte (n + 1) (by omega)
  have hb2 := hR1.byte (n + 2) (by omega)
  rw [← hd0] at hb0 hok
  rw [← hd1] at hb1 hok
  rw [← hd2] at hb2 hok
  have HSP := Lib.hid (split_any w.heap.size n s.size cap d0.toNat d1.toNat d2.toNat w1 hn (by omega) (by omega) hb0 hb1 hb2)
  have hm := M.sumL_lt (s.data.toList.take n)
  obtain ⟨m, hmd⟩ : ∃ m, m = M.sumL (s.data.toList.take n) := ⟨_, rfl⟩
  have hso := fun W hW => sealOf_any (some ⟨w.heap.size, 0, none⟩) n n (s.data.toList.take n) W (by rw [List.length_take]; omega) hW (by unfold maxLen; omega)
  rw [← hmd] at hm hso hok
  have heq := fun (W : World) => eq_seal W d0.toNat d1.toNat d2.toNat ((m : Int) / 65536) ((m : Int) / 256 % 256) ((m : Int) % 256)
  simp only [seal_eq d0 d1 d2 m hm, decide_eq_true hok] at heq
  have HSO := Lib.hid hso
  have HR1 := Lib.hid hR1
  have hnl : n ≤ s.data.toList.length := by omega
  have HNL := Lib.hid hnl
  have h3 : 3 ≤ s.size := by omega
  clear hrow hsz hmd hso hR1 hb0 hb1 hb2 hd0 hd1 hd2 hdl hn hok hnl
  go_enter Try.func37, Try.ntmps37
  go_wp2_with fail
  refine HSP.out.mono ?_
  rintro e w2 ⟨rfl, hbw2⟩
  have hR2 := HR1.out.below hbw2
  go_wp2_with fail
  obtain ⟨o, ho⟩ : ∃ o, o = Obj.cells #[.int .u8 (d0.toNat : Int), .int .u8 (d1.toNat : Int), .int .u8 (d2.toNat : Int)] 69 := ⟨_, rfl⟩
  rw [← ho]
  have hnew := heap_alloc_new w2 o
  rw [ho] at hnew
  have c0 := cell_of_row _ w2.heap.size 0 _ 69 (0, 0) hnew
  have c1 := cell_of_row _ w2.heap.size 1 _ 69 (0, 0) hnew
  have c2 := cell_of_row _ w2.heap.size 2 _ 69 (0, 0) hnew
  rw [← ho] at c0 c1 c2
  have hgl : w2.heap.size < (w2.alloc o).heap.size := by simp
  have hbw3 := (Below.refl w2.heap.size w2).alloc (Nat.le_refl _) o
  have hR3 := hR2.below hbw3
  have hbyt := hR3.head n
  have hbel3 := (hbel.trans (hbw2.mono hbel.size)).trans (hbw3.mono ((hbel.trans (hbw2.mono hbel.size)).size))
  generalize w2.alloc o = W3 at *
  have HR3 := Lib.hid hR3
  have HBY := Lib.hid hbyt
  obtain ⟨g3, hg3⟩ : ∃ g3, g3 = w2.heap.size := ⟨_, rfl⟩
  rw [← hg3] at c0 c1 c2 hgl ⊢
  clear hnew ho hbw3 hR2 hR3 hbyt hg3
  go_region_held3 (fun w' => w'.cell? ⟨g3, 0, none⟩ = some (.int .u8 (d0.toNat : Int)) ∧ w'.cell? ⟨g3, 1, none⟩ = some (.int .u8 (d1.toNat : Int)) ∧ w'.cell? ⟨g3, 2, none⟩ = some (.int .u8 (d2.toNat : Int)))
    (first | go_keep | (go_split_ands; exact ⟨(hb4.cell (p := ⟨g3, 0, none⟩) hgl).trans c0, (hb4.cell (p := ⟨g3, 1, none⟩) hgl).trans c1, (hb4.cell (p := ⟨g3, 2, none⟩) hgl).trans c2⟩))
    ((go_at_call 67; refine (HSO.out _ (by exact HBY.out)).mono ?_; rintro e w4 ⟨rfl, hb4⟩))
  have hR4 := HR3.out.drew.below hb4
  have hcv := hR4.conv_head n HNL.out
  go_wp2
  go_ret2
  exact ⟨rfl, Below.trans (b := W3.drew) hbel3.drew (hb4.mono hbel3.size)⟩

set_option maxRecDepth 100000 in
set_option maxHeartbeats 2000000 in
theorem implOpen_no (s : ByteArray) (w : World) (n : Nat) (hn : n + 3 = s.size) (hs : s.size ≤ 6000) (hok : ¬ OkSeal s n) :
    Calls Try.prog 37 #[.string s] w fun e w' => e = .returned (.tuple #[.string ⟨#[]⟩, .bool false]) ∧ Below w.heap.size w w' := by
  obtain ⟨cap, w1, hconv, hrow, hcap, hbel, hsz⟩ := conv_bytes s w
  have hdl : s.data.toList.length = s.size := by simp
  have hR1 : SRow w1 w.heap.size s cap := ⟨hcap, hrow⟩
  unfold OkSeal at hok
  rw [drop_three _ n (by omega)] at hok
  obtain ⟨d0, hd0⟩ : ∃ d : UInt8, d = s.data.toList[n]'(by omega) := ⟨_, rfl⟩
  obtain ⟨d1, hd1⟩ : ∃ d : UInt8, d = s.data.toList[n + 1]'(by omega) := ⟨_, rfl⟩
  obtain ⟨d2, hd2⟩ : ∃ d : UInt8, d = s.data.toList[n + 2]'(by omega) := ⟨_, rfl⟩
  have hb0 := hR1.byte n (by omega)
  have hb1 := hR1.byte (n + 1) (by omega)
  have hb2 := hR1.byte (n + 2) (by omega)
  rw [← hd0] at hb0 hok
  rw [← hd1] at hb1 hok
  rw [← hd2] at hb2 hok
  have HSP := Lib.hid (split_any w.heap.size n s.size cap d0.toNat d1.toNat d2.toNat w1 hn (by omega) (by omega) hb0 hb1 hb2)
  have hm := M.sumL_lt (s.data.toList.take n)
  obtain ⟨m, hmd⟩ : ∃ m, m = M.sumL (s.data.toList.take n) := ⟨_, rfl⟩
  have hso := fun W hW => sealOf_any (some ⟨w.heap.size, 0, none⟩) n n (s.data.toList.take n) W (by rw [List.length_take]; omega) hW (by unfold maxLen; omega)
  rw [← hmd] at hm hso hok
  have heq := fun (W : World) => eq_seal W d0.toNat d1.toNat d2.toNat ((m : Int) / 65536) ((m : Int) / 256 % 256) ((m : Int) % 256)
  simp only [seal_eq d0 d1 d2 m hm, decide_eq_false hok] at heq
  have HSO := Lib.hid hso
  have HR1 := Lib.hid hR1
  have hnl : n ≤ s.data.toList.length := by omega
  have HNL := Lib.hid hnl
  have h3 : 3 ≤ s.size := by omega
  clear hrow hsz hmd hso hR1 hb0 hb1 hb2 hd0 hd1 hd2 hdl hn hok hnl
  go_enter Try.func37, Try.ntmps37
  go_wp2_with fail
  refine HSP.out.mono ?_
  rintro e w2 ⟨rfl, hbw2⟩
  have hR2 := HR1.out.below hbw2
  go_wp2_with fail
  obtain ⟨o, ho⟩ : ∃ o, o = Obj.cells #[.int .u8 (d0.toNat : Int), .int .u8 (d1.toNat : Int), .int .u8 (d2.toNat : Int)] 69 := ⟨_, rfl⟩
  rw [← ho]
  have hnew := heap_alloc_new w2 o
  rw [ho] at hnew
  have c0 := cell_of_row _ w2.heap.size 0 _ 69 (0, 0) hnew
  have c1 := cell_of_row _ w2.heap.size 1 _ 69 (0, 0) hnew
  have c2 := cell_of_row _ w2.heap.size 2 _ 69 (0, 0) hnew
  rw [← ho] at c0 c1 c2
  have hgl : w2.heap.size < (w2.alloc o).heap.size := by simp
  have hbw3 := (Below.refl w2.heap.size w2).alloc (Nat.le_refl _) o
  have hR3 := hR2.below hbw3
  have hbyt := hR3.head n
  have hbel3 := (hbel.trans (hbw2.mono hbel.size)).trans (hbw3.mono ((hbel.trans (hbw2.mono hbel.size)).size))
  generalize w2.alloc o = W3 at *
  have HR3 := Lib.hid hR3
  have HBY := Lib.hid hbyt
  obtain ⟨g3, hg3⟩ : ∃ g3, g3 = w2.heap.size := ⟨_, rfl⟩
  rw [← hg3] at c0 c1 c2 hgl ⊢
  clear hnew ho hbw3 hR2 hR3 hbyt hg3
  go_region_held3 (fun w' => w'.cell? ⟨g3, 0, none⟩ = some (.int .u8 (d0.toNat : Int)) ∧ w'.cell? ⟨g3, 1, none⟩ = some (.int .u8 (d1.toNat : Int)) ∧ w'.cell? ⟨g3, 2, none⟩ = some (.int .u8 (d2.toNat : Int)))
    (first | go_keep | (go_split_ands; exact ⟨(hb4.cell (p := ⟨g3, 0, none⟩) hgl).trans c0, (hb4.cell (p := ⟨g3, 1, none⟩) hgl).trans c1, (hb4.cell (p := ⟨g3, 2, none⟩) hgl).trans c2⟩))
    ((go_at_call 67; refine (HSO.out _ (by exact HBY.out)).mono ?_; rintro e w4 ⟨rfl, hb4⟩))
  go_wp2
  go_ret2
  exact ⟨rfl, Below.trans (b := W3.drew) hbel3.drew (hb4.mono hbel3.size)⟩

set_option maxHeartbeats 1000000 in
theorem implOpen_out (s : ByteArray) (w : World) (hm : s.size ≤ maxLen) (h : s.size < 3 ∨ 6000 < s.size) :
    Calls Try.prog 37 #[.string s] w fun e w' => e = .returned (.tuple #[.string ⟨#[]⟩, .bool false]) ∧ w = w' := by
  unfold maxLen at hm
  rcases h with h | h
  all_goals
    go_enter Try.func37, Try.ntmps37
    go_wp2
    go_ret2
    exact ⟨rfl, rfl⟩

set_option maxHeartbeats 1000000 in
theorem specOpen_out (s : ByteArray) (w : World) (hm : s.size ≤ maxLen) (h : s.size < 3 ∨ 6000 < s.size) :
    Calls Try.prog 40 #[.string s] w fun e w' => e = .returned (.tuple #[.string ⟨#[]⟩, .bool false]) ∧ w = w' := by
  unfold maxLen at hm
  rcases h with h | h
  all_goals
    go_enter Try.func40, Try.ntmps40
    go_wp2
    go_ret2
    exact ⟨rfl, rfl⟩

theorem head_list (s : ByteArray) (n : Nat) : (s.extract 0 n).data.toList = s.data.toList.take n := by rw [Lib.extract_data]; simp
theorem head_eq (s : ByteArray) (n : Nat) : s.extract 0 n = ⟨(s.data.toList.take n).toArray⟩ := by
  apply ByteArray.ext
  apply Array.ext'
  rw [head_list]
/-- What the model compares: the seal of the first n bytes, with all bytes. -/
theorem reseal_eq (s : ByteArray) (n : Nat) : ((⟨(s.data.toList.take n ++ three (M.sumL (s.data.toList.take n))).toArray⟩ : ByteArray).toList == s.toList) = true ↔ OkSeal s n := by
  rw [beq_iff_eq, ByteArray.toList_eq, ByteArray.toList_eq]
  unfold OkSeal
  have h := List.take_append_drop n s.data.toList
  constructor
  · intro e
    simp only at e
    have e' : s.data.toList.take n ++ three (M.sumL (s.data.toList.take n)) = s.data.toList.take n ++ s.data.toList.drop n := by rw [h]; exact e
    exact List.append_cancel_left e'
  · intro e
    simp only
    rw [e, h]

set_option maxRecDepth 100000 in
set_option maxHeartbeats 1000000 in
theorem specOpen_yes (s : ByteArray) (w : World) (n : Nat) (hn : n + 3 = s.size) (hs : s.size ≤ 6000) (hok : OkSeal s n) :
    Calls Try.prog 40 #[.string s] w fun e w' => e = .returned (.tuple #[.string ⟨(s.data.toList.take n).toArray⟩, .bool true]) ∧ Below w.heap.size w w' := by
  have h1 : (s.size : Int) - 3 = (n : Int) := by omega
  have hse := fun W => l1Seal_any (s.extract 0 n) W (by rw [ByteArray.size_extract]; omega)
  have hE := (reseal_eq s n).2 hok
  rw [head_list] at hse
  obtain ⟨r, hr⟩ : ∃ r : ByteArray, r = ⟨(s.data.toList.take n ++ three (M.sumL (s.data.toList.take n))).toArray⟩ := ⟨_, rfl⟩
  rw [← hr] at hse hE
  have HSE := Lib.hid hse
  have h3 : 3 ≤ s.size := by omega
  have HH := Lib.hid (head_eq s n)
  clear hn hok hr hse
  go_enter Try.func40, Try.ntmps40
  go_wp2_with fail
  refine (HSE.out _).mono ?_
  rintro e w1 ⟨rfl, hb1⟩
  go_wp2
  go_ret2
  exact ⟨by rw [← HH.out]; rfl, hb1⟩

set_option maxRecDepth 100000 in
set_option maxHeartbeats 1000000 in
theorem specOpen_no (s : ByteArray) (w : World) (n : Nat) (hn : n + 3 = s.size) (hs : s.size ≤ 6000) (hok : ¬ OkSeal s n) :
    Calls Try.prog 40 #[.string s] w fun e w' => e = .returned (.tuple #[.string ⟨#[]⟩, .bool false]) ∧ Below w.heap.size w w' := by
  have h1 : (s.size : Int) - 3 = (n : Int) := by omega
  have hse := fun W => l1Seal_any (s.extract 0 n) W (by rw [ByteArray.size_extract]; omega)
  have hE : ((⟨(s.data.toList.take n ++ three (M.sumL (s.data.toList.take n))).toArray⟩ : ByteArray).toList == s.toList) = false := by
    rw [Bool.eq_false_iff]; exact fun h => hok ((reseal_eq s n).1 h)
  rw [head_list] at hse
  obtain ⟨r, hr⟩ : ∃ r : ByteArray, r = ⟨(s.data.toList.take n ++ three (M.sumL (s.data.toList.take n))).toArray⟩ := ⟨_, rfl⟩
  rw [← hr] at hse hE
  have HSE := Lib.hid hse
  have h3 : 3 ≤ s.size := by omega
  clear hn hok hr hse
  go_enter Try.func40, Try.ntmps40
  go_wp2_with fail
  refine (HSE.out _).mono ?_
  rintro e w1 ⟨rfl, hb1⟩
  go_wp2
  go_ret2
  exact ⟨rfl, hb1⟩

set_option maxHeartbeats 400000 in
theorem openWalk (s : ByteArray) (w0 : s.size ≤ maxLen) (w : World) :
    Calls Try.prog 13 #[.string s] w fun e w' => e = .returned (.bool true) ∧ Below w.heap.size w w' := by
  have w0' := w0
  unfold maxLen at w0'
  by_cases h1 : 1048576 < s.size
  · go_enter Try.func13, Try.ntmps13
    go_wp2
    go_ret
    exact ⟨rfl, Below.refl _ _⟩
  · by_cases h2 : s.size < 3 ∨ 6000 < s.size
    · have H2 := Lib.hid h2
      clear h2
      go_enter Try.func13, Try.ntmps13
      go_wp2_with fail
      refine (specOpen_out s _ w0 H2.out).mono ?_
      rintro e w' ⟨rfl, rfl⟩
      go_wp2_with fail
      refine (implOpen_out s _ w0 H2.out).mono ?_
      rintro e w' ⟨rfl, rfl⟩
      go_wp2
      go_ret
      exact ⟨rfl, Below.refl _ _⟩
    · obtain ⟨n, hn⟩ : ∃ n, n + 3 = s.size := ⟨s.size - 3, by omega⟩
      have hs : s.size ≤ 6000 := by omega
      have HN := Lib.hid hn
      clear h2 hn
      by_cases hok : OkSeal s n
      · have HOK := Lib.hid hok
        clear hok
        go_enter Try.func13, Try.ntmps13
        go_wp2_with fail
        refine (specOpen_yes s _ n HN.out hs HOK.out).mono ?_
        rintro e w1 ⟨rfl, hb1⟩
        go_wp2_with fail
        refine (implOpen_yes s _ n HN.out hs HOK.out).mono ?_
        rintro e w2 ⟨rfl, hb2⟩
        go_wp2
        go_ret
        exact ⟨rfl, hb1.trans (hb2.mono hb1.size)⟩
      · have HOK := Lib.hid hok
        clear hok
        go_enter Try.func13, Try.ntmps13
        go_wp2_with fail
        refine (specOpen_no s _ n HN.out hs HOK.out).mono ?_
        rintro e w1 ⟨rfl, hb1⟩
        go_wp2_with fail
        refine (implOpen_no s _ n HN.out hs HOK.out).mono ?_
        rintro e w2 ⟨rfl, hb2⟩
        go_wp2
        go_ret
        exact ⟨rfl, hb1.trans (hb2.mono hb1.size)⟩
end Go.Proofs.Ytodfefaknclemaa
