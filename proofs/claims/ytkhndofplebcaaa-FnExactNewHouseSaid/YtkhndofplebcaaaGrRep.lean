/-
  Contracts for slices.Repeat over one replica: three or five times.
-/
import Derived.Test.YtkhndofplebcaaaGrMem
import Derived.Test.YtkhndofplebcaaaInsR
import Derived.Test.YtkhndofplebcaaaCopy
namespace Go.Proofs.Ytkhndofplebcaaa.Gr
open Go.RowKit CM
set_option linter.unusedVariables false
set_option linter.unusedSimpArgs false

set_option maxHeartbeats 2000000 in
theorem mul64_any (N : Nat) (hN : N = 3 ∨ N = 5) (w : World) :
    Calls Try.prog 174 #[.int .u64 1, .int .u64 (N : Int)] w fun e w' => e = .returned (.tuple #[.int .u64 0, .int .u64 (N : Int)]) ∧ w = w' := by
  rcases hN with rfl | rfl
  · go_enter Try.func174, Try.ntmps174
    go_wp2
    exact bodyPost_ret (v := .tuple #[.int .u64 0, .int .u64 3]) (by simp [results, Try.results174, go_sem] <;> decide +kernel) rfl ⟨rfl, rfl⟩
  · go_enter Try.func174, Try.ntmps174
    go_wp2
    exact bodyPost_ret (v := .tuple #[.int .u64 0, .int .u64 5]) (by simp [results, Try.results174, go_sem] <;> decide +kernel) rfl ⟨rfl, rfl⟩
set_option maxHeartbeats 2000000 in
theorem mul_any (N : Nat) (hN : N = 3 ∨ N = 5) (w : World) :
    Calls Try.prog 145 #[.int .u64 1, .int .u64 (N : Int)] w fun e w' => e = .returned (.tuple #[.int .u64 0, .int .u64 (N : Int)]) ∧ w = w' := by
  have HM := Lib.hid (fun W => mul64_any N hN W)
  go_enter Try.func145, Try.ntmps145
  go_wp2_with fail
  refine (HM.out _).mono ?_
  rintro e w1 ⟨rfl, rfl⟩
  go_wp2
  exact bodyPost_ret (v := .tuple #[.int .u64 0, .int .u64 (N : Int)]) (by simp [results, Try.results145, go_sem]) rfl ⟨rfl, rfl⟩

/-- A new voter. -/
def rp0 (p : Nat) : RH := ⟨true, 0, none, 0, [], p, p⟩
def row0 : List Value := [.bool true, .slice none 0 0, .int .i64 0]
def rows (m : Nat) : List Value := (List.replicate m row0).flatten
theorem rows_len (m : Nat) : (rows m).length = m * 3 := by
  unfold rows
  rw [flat_len (sz := 3) (by intro x hx; rw [(List.mem_replicate.1 hx).2]; rfl), List.length_replicate]
theorem rows_add (m k : Nat) : rows (m + k) = rows m ++ rows k := by
  unfold rows; rw [← List.replicate_append_replicate, List.flatten_append]
theorem rows_one (m : Nat) : ∀ v ∈ rows m, v.oneCell' = true := by
  intro v hv
  obtain ⟨l, hl, hv⟩ := List.mem_flatten.1 hv
  rw [(List.mem_replicate.1 hl).2] at hv
  simp [row0] at hv
  rcases hv with rfl | rfl | rfl <;> rfl
theorem rows_map (m p : Nat) : ((List.replicate m (rp0 p)).map rpCs).flatten = rows m := by
  unfold rows; rw [List.map_replicate]; rfl
theorem step_rows {m k : Nat} {rest : List Value} (hr : k * 3 ≤ rest.length) :
    ((rows m ++ rest).take (m * 3) ++ rows k ++ (rows m ++ rest).drop (m * 3 + (rows k).length)) = rows (m + k) ++ rest.drop (k * 3) := by
  rw [rows_len, rows_add]
  rw [List.take_append_of_le_length (by rw [rows_len]; exact Nat.le_refl _), List.take_of_length_le (by rw [rows_len]; exact Nat.le_refl _)]
  rw [show m * 3 + k * 3 = (rows m).length + k * 3 by rw [rows_len], List.drop_append, List.drop_of_length_le (by omega)]
  simp
theorem src_rows {w : World} {g m k : Nat} {rest : List Value} {t : TypeId} (h : w.heap[g]? = some (.cells (rows m ++ rest).toArray t (0, 0))) (hk : k ≤ m) : ∀ j v, (rows k)[j]? = some v → w.cell? ((⟨g, 0, none⟩ : Addr).add j) = some v := by
  intro j v hj
  have hadd : (⟨g, 0, none⟩ : Addr).add j = ⟨g, j, none⟩ := by unfold Addr.add; split <;> simp_all
  rw [hadd, cell_of_row w g j _ t (0, 0) h]
  have e : rows m = rows k ++ rows (m - k) := by rw [← rows_add]; congr 1; omega
  have hjl : j < (rows k).length := by
    rcases Nat.lt_or_ge j (rows k).length with h1 | h1
    · exact h1
    · rw [List.getElem?_eq_none h1] at hj; cases hj
  rw [List.getElem?_toArray, List.getElem?_append_left (by rw [rows_len] at hjl ⊢; omega), e, List.getElem?_append_left hjl]
  exact hj

theorem bel_setRow {B g : Nat} {w w' : World} (h : Below B w w') (hg : B ≤ g) (cs : Array Value) : Below B w (w'.setRow g cs) :=
  ⟨h.os, h.tape, h.output, by rw [setRow_size]; exact h.size, fun k hk => (setRow_other w' g k cs (by omega)).trans (h.block k hk)⟩
theorem rp0_own {w : World} {lo hi : Nat} {A : Option Addr} (N p : Nat) (h1 : lo ≤ p) (h2 : p ≤ hi) : Nst KR w lo hi A (List.replicate N (rp0 p)) :=
  ⟨fun x hx => by
    rw [(List.mem_replicate.1 hx).2]
    exact ⟨⟨Nat.le_refl _, OwnK.nil⟩, h1, h2, fun q _ => by simp only [KR, rp0]; omega⟩, List.pairwise_replicate.2 (.inr (.inl (Nat.le_refl _)))⟩
/-- What Repeat hands back. -/
def RepPost (N : Nat) (w : World) (e : Ending) (w' : World) : Prop :=
  ∃ g, e = .returned (.slice (some ⟨g, 0, none⟩) N N) ∧ OwnK KR w' w.heap.size w'.heap.size (some ⟨g, 0, none⟩) N (List.replicate N (rp0 w.heap.size)) ∧ Below w.heap.size w w'
theorem rep_first {w w1 : World} {g N : Nat} (hN : 3 ≤ N) (hf : Fill w1 w.heap.size N 3 91 [] 0) (hb1 : Below w.heap.size w w1) (hg : w.heap[g]? = some (.cells row0.toArray 91 (0, 0))) :
    ∃ (W1 : World) (rest : List Value), (∀ ty, (Builtin.copy_ #[43, 43] ty #[.slice (some ⟨w.heap.size, 0, none⟩) N N, .slice (some ⟨g, 0, none⟩) 1 1]).run Try.prog w1 = .ok (goInt 1) W1) ∧ W1.heap[w.heap.size]? = some (.cells (rows 1 ++ rest).toArray 91 (0, 0)) ∧ Below w.heap.size w W1 ∧ rest.length = (N - 1) * 3 := by
  obtain ⟨i0, hi, hz0, hz1, hz2⟩ := info_parts infoRep
  obtain ⟨cur, hh, hs, _⟩ := hf
  have hgc := (hb1.block g (lt_blk hg)).trans hg
  have hsize : (Try.prog.info? 91).map (·.size) = some 3 := by rw [hi]; simp [hz1]
  have hcl : cur.toList.length = N * 3 := by simpa using hs
  have hcp := fun (ty : TypeId) => run_copy_at (P := Try.prog) w1 43 43 ty 91 w.heap.size 0 N N 3 ⟨g, 0, none⟩ 1 1 cur.toList 91 (rows 1) Try.underlying43 hsize (by simpa using hh) (by rw [rows_len, show Nat.min 1 N = 1 from Nat.min_eq_left (by omega)]) (src_rows (m := 1) (rest := []) (t := 91) (by simpa [rows] using hgc) (Nat.le_refl _)) (by rw [rows_len]; omega) (rows_one 1)
  rw [show Nat.min 1 N = 1 from Nat.min_eq_left (by omega), List.take_zero, List.nil_append, Nat.zero_add] at hcp
  exact ⟨w1.setRow w.heap.size (rows 1 ++ cur.toList.drop (rows 1).length).toArray, cur.toList.drop (rows 1).length, hcp, setRow_heap w1 w.heap.size cur _ _ _ hh, bel_setRow hb1 (Nat.le_refl _) _, by rw [List.length_drop, rows_len]; omega⟩
theorem rep_next {w W : World} {g N m k : Nat} {rest : List Value} (hk : k = Nat.min m (N - m)) (hm : m ≤ N) (hh : W.heap[g]? = some (.cells (rows m ++ rest).toArray 91 (0, 0))) (hr : rest.length = (N - m) * 3) (hb : Below w.heap.size w W) (hg : w.heap.size ≤ g) :
    ∃ (W1 : World) (rest' : List Value), (∀ ty, (Builtin.copy_ #[43, 43] ty #[.slice (some ⟨g, m * 3, none⟩) (N - m) (N - m), .slice (some ⟨g, 0, none⟩) m N]).run Try.prog W = .ok (goInt (k : Int)) W1) ∧ W1.heap[g]? = some (.cells (rows (m + k) ++ rest').toArray 91 (0, 0)) ∧ Below w.heap.size w W1 ∧ rest'.length = (N - (m + k)) * 3 := by
  obtain ⟨i0, hi, hz0, hz1, hz2⟩ := info_parts infoRep
  have hsize : (Try.prog.info? 91).map (·.size) = some 3 := by rw [hi]; simp [hz1]
  have hkm : k ≤ m := by rw [hk]; exact Nat.min_le_left _ _
  have hkn : k ≤ N - m := by rw [hk]; exact Nat.min_le_right _ _
  have hcp := fun (ty : TypeId) => run_copy_at (P := Try.prog) W 43 43 ty 91 g (m * 3) (N - m) (N - m) 3 ⟨g, 0, none⟩ m N (rows m ++ rest) 91 (rows k) Try.underlying43 hsize hh (by rw [rows_len, ← hk]) (src_rows hh hkm) (by rw [rows_len, List.length_append, rows_len, hr]; omega) (rows_one k)
  rw [← hk, step_rows (by rw [hr]; omega)] at hcp
  exact ⟨_, _, hcp, setRow_heap W g _ _ _ _ hh, bel_setRow hb hg _, by rw [List.length_drop, hr]; omega⟩
set_option maxRecDepth 100000 in
set_option maxHeartbeats 4000000 in
theorem repeat_any (g N : Nat) (hN : N = 3 ∨ N = 5) (w : World) (hg : w.heap[g]? = some (.cells row0.toArray 91 (0, 0))) :
    Calls Try.prog 106 #[.slice (some ⟨g, 0, none⟩) 1 1, .int .i64 (N : Int)] w (RepPost N w) := by
  obtain ⟨i0, hi, hz0, hz1, hz2⟩ := info_parts infoRep
  have HM := Lib.hid (fun W => mul_any N hN W)
  have HYtkhndofplebcaaa := Lib.hid hN
  have hn3 : 3 ≤ N := by omega
  have hn5 : N ≤ 5 := by omega
  have HG := Lib.hid hg
  have hgl := lt_blk hg
  have hu : IntKind.u64.wrap (N : Int) = (N : Int) := by have := HYtkhndofplebcaaa.out; rcases this with rfl | rfl <;> rfl
  have hu1 : IntKind.i64.wrap (N : Int) = (N : Int) := by have := HYtkhndofplebcaaa.out; rcases this with rfl | rfl <;> rfl
  clear hg hN
  go_enter Try.func106, Try.ntmps106
  go_wp2_with fail
  refine (HM.out _).mono ?_
  rintro e w1 ⟨rfl, rfl⟩
  go_wp2_with (at_make; refine wpList_make_full _ rfl (.tmp 29) (.tmp 29) 43 rfl w.heap.size 91 i0 _ 3 Try.underlying43 hi hz0 hz1 .i64 .i64 _ _ N rfl rfl rfl rfl (by rw [hz2]; omega) (by unfold maxLen; omega) (Nat.le_refl _) ?_; intro w1 hown hgr; have hb1 : Below w.heap.size w w1 := (Below.refl _ _).grown hgr (Nat.le_refl _) (by simp); obtain ⟨W1, rest0, hcp, hh1, hB1, hrl⟩ := rep_first hn3 (fill_made (by omega) hown) hb1 HG.out; have hrun : (Builtin.copy_ #[43, 43] 3 #[.slice (some ⟨w.heap.size, 0, none⟩) N N, .slice (some ⟨g, 0, none⟩) 1 1]).run Try.prog w1 = .ok (.int .i64 1) W1 := hcp 3; have HH1 := Lib.hid hh1; have HB1 := Lib.hid hB1; have HRL := Lib.hid hrl; clear hown hgr hb1 hcp hh1 hB1 hrl)
  go_loopw [8] (fun v wr => ∃ (m : Nat) (rest : List Value), 1 ≤ m ∧ m ≤ N ∧ v = .int .i64 (m : Int) ∧ Hid (wr.heap[w.heap.size]? = some (.cells (rows m ++ rest).toArray 91 (0, 0))) ∧ Hid (rest.length = (N - m) * 3) ∧ Below w.heap.size w wr) (fun v _ => N - (intOf v).toNat)
  case atStart => exact ⟨1, rest0, by omega, by omega, rfl, HH1, HRL, HB1.out⟩
  case round =>
    clear HH1 HRL HB1
    obtain ⟨m, rest, hm1, hmN, rfl, HH, HRL, hb⟩ := hrel
    by_cases hlt : m < N
    · obtain ⟨k, hk⟩ : ∃ k, k = Nat.min m (N - m) := ⟨_, rfl⟩
      have hkm : k ≤ m := by rw [hk]; exact Nat.min_le_left _ _
      have hkn : k ≤ N - m := by rw [hk]; exact Nat.min_le_right _ _
      have hk1 : 1 ≤ k := by rw [hk]; exact Nat.le_min.2 ⟨hm1, by omega⟩
      obtain ⟨W2, rest2, hcp2, hh2, hb2, hr2⟩ := rep_next (w := w) (W := wr.drew) hk hmN HH.out HRL.out hb.drew (Nat.le_refl _)
      have HCP2 := Lib.hid hcp2
      have HH2 := Lib.hid hh2
      have HR2 := Lib.hid hr2
      have HB2 := Lib.hid hb2
      have hm0 : (0 : Int) ≤ (m : Int) := by omega
      have hmn0 : (m : Int) ≤ (N : Int) := by omega
      have hmn1 : (m : Int) < (N : Int) := by omega
      have hwr : IntKind.i64.wrap ((m : Int) + (k : Int)) = (m : Int) + (k : Int) := by rw [IntKind.wrap_i64]; omega
      have hmt : (m : Int).toNat = m := Int.toNat_natCast m
      have hne : ¬ N = m := by omega
      clear hk hcp2 hh2 hr2 hb2 hb
      go_wp2_with fail
      go_region_law (refine step_copy_told rfl (.tmp 41) (.tmp 44) 43 43 rfl (.slice (some ⟨w.heap.size, m * 3, none⟩) (N - m) (N - m)) (.slice (some ⟨w.heap.size, 0, none⟩) m N) (by simp [Act.eval, Act.put]) (by simp [Act.eval, Act.put]) (HCP2.out _) ?_)
      all_goals
        simp [Act.put]
        go_wp2
        go_roundw
        case rel => exact ⟨m + k, rest2, by omega, by omega, by go_num, HH2, HR2, HB2.out⟩
        case measure => simp [intOf]; omega
    · have hmN2 : m = N := by omega
      subst hmN2
      have hh := HH.out
      have hr0 : rest = [] := List.eq_nil_of_length_eq_zero (by have := HRL.out; omega)
      subst hr0
      rw [List.append_nil] at hh
      have hgl2 := lt_blk hh
      have HOW := Lib.hid (show OwnK KR wr w.heap.size wr.heap.size (some ⟨w.heap.size, 0, none⟩) m (List.replicate m (rp0 w.heap.size)) from
        ⟨.inr ⟨w.heap.size, (rows m).toArray, rfl, Nat.le_refl _, hgl2, hh, by simp, by unfold maxLen; omega, by simp [rows_len, KR], fun j hj i hi => by
          rw [List.getElem?_toArray, ← rows_map m w.heap.size]; exact flat_at (cs_len KR _) j hj i hi⟩, rp0_own m _ (Nat.le_refl _) hb.size⟩)
      have HB := Lib.hid hb
      clear hh hb HH HRL
      go_wp2
      go_ret
      exact ⟨_, rfl, HOW.out, HB.out⟩
end Go.Proofs.Ytkhndofplebcaaa.Gr
