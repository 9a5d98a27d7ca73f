/-
  What FnFall, FnMend and FnCut compare by: two disks, two lists of texts; and the disks that hold frames.
-/
import Derived.Test.YtcjejbnogghkcaaDkFM
import Derived.Test.YtcjejbnogghkcaaDkV
import Derived.Test.YtcjejbnogghkcaaStr
namespace Go.Proofs.Ytcjejbnogghkcaa.Dk
open Go.RowKit
set_option linter.unusedVariables false
set_option linter.unusedSimpArgs false

set_option maxRecDepth 100000 in
set_option maxHeartbeats 1000000 in
theorem vTexts_same (A A' : Option Addr) (n c c' : Nat) (xs : List ByteArray) (B : Nat) (w : World) (hn : xs.length = n) (h : StrsB w B A xs) (h' : StrsB w B A' xs) (hB : B ≤ w.heap.size) (hl : n ≤ 1048576) :
    Calls Try.prog 28 #[.slice A n c, .slice A' n c'] w fun e w' => e = .returned (.bool true) ∧ Below w.heap.size w w' := by
  have hge := Nat.le_of_eq hn
  have hle := Nat.le_of_eq hn.symm
  have HS := Lib.hid h
  have HS' := Lib.hid h'
  clear hn h h'
  go_enter Try.func28, Try.ntmps28
  go_wp2
  go_loopw [5] (fun i wr => ∃ k m : Nat, k ≤ n ∧ i = .int .i64 k ∧ wr = w.drewN m) (fun i _ => n - (intOf i).toNat)
  case atStart => exact ⟨0, 0, by omega, rfl, rfl⟩
  case round =>
    obtain ⟨k, m, hk, rfl, rfl⟩ := hrel
    by_cases hlt : k < n
    · obtain ⟨b, off, rfl, hbB, hc⟩ := HS.out.get (by omega)
      obtain ⟨b', off', rfl, hbB', hc'⟩ := HS'.out.get (by omega)
      have hck := hc k (by omega)
      have hck' := hc' k (by omega)
      have hk0 : (0 : Int) ≤ (k : Int) := by omega
      have hkn : (k : Int) < (n : Int) := by omega
      clear hc hc'
      go_wp2_with fail
      go_quiet (fail)
      go_wp2
      go_roundw
      case rel => exact ⟨k + 1, m + nq, by omega, by go_num, rfl⟩
      case measure => simp [intOf]; omega
    · go_wp2
      go_ret
      exact ⟨rfl, below_drewN (Below.refl _ _) m⟩

theorem fieldsD' : ((Try.prog.fieldsOf 30).toList.map fun f => (f.name, f.type, f.offset)) = [("Kept", 9, 0), ("Loose", 9, 1)] := by kernel_rfl
theorem fieldsD : ∃ f g, (Try.prog.fieldsOf 30).toList = [f, g] ∧ f.name = "Kept" ∧ f.type = 9 ∧ f.offset = 0 ∧ g.name = "Loose" ∧ g.type = 9 ∧ g.offset = 1 := by
  have h := fieldsD'
  generalize (Try.prog.fieldsOf 30).toList = l at h
  have hl := congrArg List.length h
  simp only [List.length_map, List.length_cons, List.length_nil] at hl
  obtain ⟨f, g, rfl⟩ : ∃ f g, l = [f, g] := by
    rcases l with _ | ⟨f, _ | ⟨g, _ | ⟨k, l⟩⟩⟩
    · simp at hl
    · simp at hl
    · exact ⟨f, g, rfl⟩
    · simp at hl
  simp only [List.map_cons, List.map_nil, List.cons.injEq, Prod.mk.injEq, and_true] at h
  exact ⟨f, g, rfl, h.1.1, h.1.2.1, h.1.2.2, h.2.1, h.2.2.1, h.2.2.2⟩
/-- A disk equals itself. -/
theorem eq_disk (w : World) (k l : ByteArray) :
    (Op.equalIn 10000 30 (.agg #[.string k, .string l]) (.agg #[.string k, .string l])).run Try.prog w = .ok true w := by
  have hq : ∀ x : ByteArray, (Op.equalIn 9999 9 (.string x) (.string x)).run Try.prog w = .ok true w := fun x => by
    first | (rw [run_equalIn_string w 9998 9 x x Try.underlying9]; simp) | (simp [go_sem, Try.underlying9])
  have hp : ∀ (xs : Array Value) (o : Nat) (v : Value), xs[o]? = some v → (part 9 xs o).run Try.prog w = .ok v w := fun xs o v h => run_part_plain w (by kernel_rfl) h
  obtain ⟨f, g, hfg, f1, f2, f3, g1, g2, g3⟩ := fieldsD
  rw [show (10000 : Nat) = 9999 + 1 from rfl, run_equalIn_struct w 9999 30 _ _ (by kernel_rfl) (by kernel_rfl), hfg]
  simp only [Op.eqFields, Sem.run_bind, ne_eq, f1, f2, f3, g1, g2, g3, not_false_eq_true, if_true, String.reduceEq]
  rw [hp _ 0 (.string k) rfl]
  simp only [Result.andThen_ok]
  rw [hp _ 0 (.string k) rfl]
  simp only [Result.andThen_ok, hq, Bool.not_true, Bool.false_eq_true, if_false, Sem.run_bind]
  rw [hp _ 1 (.string l) rfl]
  simp only [Result.andThen_ok]
  rw [hp _ 1 (.string l) rfl]
  simp only [Result.andThen_ok, hq]
  simp

/-! Disks of frames: the first kp are kept, the others loose. -/
def kB (ts : List ByteArray) (kp : Nat) : ByteArray := ⟨(frmL (ts.take kp)).toArray⟩
def lB (ts : List ByteArray) (kp : Nat) : ByteArray := ⟨(frmL (ts.drop kp)).toArray⟩
theorem kB_list (ts : List ByteArray) (kp : Nat) : (kB ts kp).data.toList = frmL (ts.take kp) := by simp [kB]
theorem lB_list (ts : List ByteArray) (kp : Nat) : (lB ts kp).data.toList = frmL (ts.drop kp) := by simp [lB]
theorem byt {a b : ByteArray} (h : a.data.toList = b.data.toList) : a = b := by
  apply ByteArray.ext
  exact Array.ext' h
theorem app_list (a b : ByteArray) : (a ++ b).data.toList = a.data.toList ++ b.data.toList := by simp
theorem kB_put {ts : List ByteArray} {kp : Nat} (s : ByteArray) (h : kp ≤ ts.length) : kB (ts ++ [s]) kp = kB ts kp := by
  apply byt
  rw [kB_list, kB_list, List.take_append_of_le_length h]
theorem lB_put {ts : List ByteArray} {kp : Nat} (s : ByteArray) (h : kp ≤ ts.length) : lB (ts ++ [s]) kp = lB ts kp ++ frm s := by
  apply byt
  rw [app_list, lB_list, lB_list, List.drop_append_of_le_length h, frmL_app]
  simp [frmL]
theorem kl_all (ts : List ByteArray) (kp : Nat) : kB ts kp ++ lB ts kp = kB ts ts.length := by
  apply byt
  rw [app_list, kB_list, lB_list, kB_list, ← frmL_app, List.take_append_drop, List.take_length]
theorem lB_all (ts : List ByteArray) : lB ts ts.length = ⟨#[]⟩ := by
  apply byt
  rw [lB_list, List.drop_length]
  first | rfl | simp [frmL]
theorem frmL_small (ts : List ByteArray) (h : ∀ s ∈ ts, s.size ≤ 8) : (frmL ts).length ≤ 13 * ts.length := by
  induction ts with
  | nil => simp [frmL]
  | cons s ts ih =>
    rw [frmL_cons, List.length_append, C1.data_len, List.length_cons]
    have := ih (fun x hx => h x (by simp [hx]))
    have h1 := h s (by simp)
    have := frm_two s (by omega)
    omega
theorem kl_size (ts : List ByteArray) (kp : Nat) (h : ∀ s ∈ ts, s.size ≤ 8) : (kB ts kp).size + (lB ts kp).size ≤ 13 * ts.length := by
  have h1 := congrArg ByteArray.size (kl_all ts kp)
  rw [ByteArray.size_append] at h1
  have h2 : (kB ts ts.length).size = (frmL ts).length := by rw [← C1.data_len, kB_list, List.take_length]
  have := frmL_small ts h
  omega
/-- Where each frame ends. -/
def endsV (ts : List ByteArray) : List Value := (List.range ts.length).map fun j => .int .i64 (fend ts (j + 1) : Nat)
theorem endsV_len (ts : List ByteArray) : (endsV ts).length = ts.length := by simp [endsV]
theorem endsV_put (ts : List ByteArray) (s : ByteArray) : endsV (ts ++ [s]) = endsV ts ++ [.int .i64 ((kB (ts ++ [s]) (ts ++ [s]).length).size : Nat)] := by
  unfold endsV
  rw [List.length_append, List.length_singleton, List.range_succ, List.map_append, List.map_singleton]
  have h0 : ((List.range ts.length).map fun j => Value.int .i64 ((fend (ts ++ [s]) (j + 1) : Nat) : Int)) = (List.range ts.length).map fun j => Value.int .i64 ((fend ts (j + 1) : Nat) : Int) := by
    apply List.map_congr_left
    intro j hj
    have hj := List.mem_range.1 hj
    unfold fend
    rw [List.take_append_of_le_length (by omega)]
  rw [h0]
  · have : fend (ts ++ [s]) (ts.length + 1) = (kB (ts ++ [s]) (ts.length + 1)).size := by
      rw [← C1.data_len, kB_list]; rfl
    rw [this]
theorem endsV_at (ts : List ByteArray) (j : Nat) (h : j < ts.length) : (endsV ts)[j]? = some (.int .i64 (fend ts (j + 1) : Nat)) := by
  simp [endsV, h]
/-- Rows of different kinds lie in different blocks. -/
theorem own_ne {w : World} {b b' n n' s s' : Nat} {e e' : TypeId} {v v' : Value} {xs xs' : List Value} (h : w.ownsRow b e s v n xs) (h' : w.ownsRow b' e' s' v' n' xs') (hne : e ≠ e') : v.ownBlock = none ∨ v.ownBlock ≠ v'.ownBlock := by
  rcases h.2 with ⟨rfl, _⟩ | ⟨g, cap, cur, rfl, _, hh, _⟩
  · exact .inl rfl
  · right
    intro heq
    rcases h'.2 with ⟨rfl, _⟩ | ⟨g', cap', cur', rfl, _, hh', _⟩
    · simp [Value.ownBlock] at heq
    · simp [Value.ownBlock] at heq
      subst heq
      rw [hh] at hh'
      injection hh' with hh'
      injection hh' with _ h2 _
      exact hne h2

/-- How many frames lie whole within E bytes. -/
def wh (D : List ByteArray) (E : Nat) (torn : Bool) : Nat → Nat
  | 0 => 0
  | i + 1 => if wholeB D E torn i = true then i + 1 else wh D E torn i
theorem wh_le (D : List ByteArray) (E : Nat) (torn : Bool) (i : Nat) : wh D E torn i ≤ i := by
  induction i with
  | zero => exact Nat.le_refl _
  | succ i ih => unfold wh; split <;> omega
theorem wh_pos (D : List ByteArray) (E : Nat) (torn : Bool) (i : Nat) (h : 0 < wh D E torn i) : wholeB D E torn (wh D E torn i - 1) = true := by
  induction i with
  | zero => simp [wh] at h
  | succ i ih =>
    unfold wh at h ⊢
    split at h
    · next hc => rw [if_pos hc]; exact hc
    · next hc => rw [if_neg hc]; exact ih h
theorem wh_above (D : List ByteArray) (E : Nat) (torn : Bool) (i j : Nat) (h : wh D E torn i ≤ j) (hj : j < i) : wholeB D E torn j = false := by
  induction i with
  | zero => omega
  | succ i ih =>
    unfold wh at h
    split at h
    · omega
    · next hc =>
      rcases Nat.lt_or_ge j i with h1 | h1
      · exact ih h h1
      · obtain rfl : j = i := by omega
        simpa using hc
/-- What is read after the crash. -/
theorem after_fall (ts : List ByteArray) (kp m : Nat) (torn : Bool) (hts : ∀ s ∈ ts, s.size ≤ 8) (hkp : kp ≤ ts.length) (hm : m ≤ (lB ts kp).size) :
    (frs (kB ts kp ++ ⟨(fallL (lB ts kp).data.toList m torn).toArray⟩) (kB ts kp ++ ⟨(fallL (lB ts kp).data.toList m torn).toArray⟩).size 0).1 = ts.take (wh ts ((kB ts kp).size + m) (torn && decide (0 < m)) ts.length) ∧ kp ≤ wh ts ((kB ts kp).size + m) (torn && decide (0 < m)) ts.length := by
  have hks : (kB ts kp).size = (frmL (ts.take kp)).length := by rw [← C1.data_len, kB_list]
  have hls : (lB ts kp).size = (frmL (ts.drop kp)).length := by rw [← C1.data_len, lB_list]
  have hsplit : frmL ts = frmL (ts.take kp) ++ frmL (ts.drop kp) := by rw [← frmL_app, List.take_append_drop]
  constructor
  · have h := fall_reads [] ts ((kB ts kp).size + m) (wh ts ((kB ts kp).size + m) (torn && decide (0 < m)) ts.length) (torn && decide (0 < m)) (kB ts kp ++ ⟨(fallL (lB ts kp).data.toList m torn).toArray⟩) (by simp) (fun s hs => by have := hts s hs; omega) (by
      rw [app_list, kB_list, lB_list, hsplit, fallL_app _ _ _ _ (by omega) (fun hh => by
        obtain ⟨h1, _, h3⟩ := hh
        have : m = 0 := by omega
        rw [this] at h1
        simp at h1)]
      rw [show (kB ts kp).size + m - (frmL (ts.take kp)).length = m by omega]
      show frmL (ts.take kp) ++ fallL (frmL (ts.drop kp)) m torn = [] ++ (frmL (ts.take kp) ++ fallL (frmL (ts.drop kp)) m (torn && decide (0 < m)))
      rw [List.nil_append]
      congr 1
      unfold fallL
      by_cases h0 : 0 < m <;> cases torn <;> simp [h0]) (by rw [hsplit, List.length_append]; omega) (wh_le _ _ _ _) (wh_pos _ _ _ _) (fun hu => wh_above _ _ _ _ _ (Nat.le_refl _) hu)
    rw [h]
    rfl
  · rcases Nat.lt_or_ge (wh ts ((kB ts kp).size + m) (torn && decide (0 < m)) ts.length) kp with h | h
    · have h1 := wh_above ts ((kB ts kp).size + m) (torn && decide (0 < m)) ts.length (kp - 1) (by omega) (by omega)
      unfold wholeB at h1
      rw [show kp - 1 + 1 = kp by omega] at h1
      have h2 : fend ts kp = (kB ts kp).size := hks.symm
      rw [h2] at h1
      by_cases h0 : m = 0
      · subst h0; simp at h1
      · have : (kB ts kp).size < (kB ts kp).size + m := by omega
        simp [this] at h1
    · exact h
end Go.Proofs.Ytcjejbnogghkcaa.Dk
