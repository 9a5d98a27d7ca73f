/-
  Contracts for the last time of a key: LastTime of the program and of the model; what a found place says.
-/
import Derived.Test.YtcefofgdbmnkdaaFind
import Derived.Test.YtcefofgdbmnkdaaGoodC
namespace Go.Proofs.Ytcefofgdbmnkdaa
open Go.RowKit CM
set_option linter.unusedVariables false

theorem lastT_at (vs : List (Int × ByteArray × Bool)) (h : 0 < vs.length) : lastT vs = (vs[vs.length - 1]'(by omega)).1 := by
  unfold lastT
  rw [List.getLast?_eq_getElem?, List.getElem?_eq_getElem (by omega)]
/-- What is known of good cells. -/
theorem csB_true {hs : List (ByteArray × Option Addr × Nat × List (Int × ByteArray × Bool))} (h : csB (hs.map dat) = true) : upB cLt (hs.map dat) = true ∧ hs.length ≤ 24 ∧ ∀ k (hk : k < hs.length), keyB hs[k].1 = true ∧ vsB hs[k].2.2.2 = true := by
  obtain ⟨h1, h2, h3⟩ := cellsB_of h
  refine ⟨h2, by simpa using h3, fun k hk => ?_⟩
  have h4 := h1 (dat hs[k]) (List.mem_map.2 ⟨_, List.getElem_mem hk, rfl⟩)
  rw [cellB_eq] at h4
  simpa [dat] using h4
theorem vsB_true {vs : List (Int × ByteArray × Bool)} (h : vsB vs = true) : (∀ v ∈ vs, verB valB v = true) ∧ upB tLt vs = true ∧ 1 ≤ vs.length ∧ vs.length ≤ 16 := by
  simpa [vsB] using h
theorem FindAt.yes {hs : List (ByteArray × Option Addr × Nat × List (Int × ByteArray × Bool))} {key : ByteArray} {i : Nat} (h : FindAt (hs.map Prod.fst) key i true) : ∃ hi : i < hs.length, hs[i].1 = key ∧ findC (hs.map dat) key = some hs[i].2.2.2 := by
  obtain ⟨h1, h2, h3, h4⟩ := h
  obtain ⟨hi, hk⟩ := h4.1 rfl
  rw [List.length_map] at hi
  rw [List.getElem_map] at hk
  refine ⟨hi, hk, ?_⟩
  have := findC_at (l := hs.map dat) (key := key) (k := i) (by simpa using hi) (by simpa [dat] using hk) (fun j hj => by
    have h5 := h2 j (by rw [List.length_map]; omega) hj
    rw [List.getElem_map] at h5
    simp only [List.getElem_map, dat]
    exact kLt_ne h5)
  simpa [dat] using this
theorem FindAt.no {hs : List (ByteArray × Option Addr × Nat × List (Int × ByteArray × Bool))} {key : ByteArray} {i : Nat} (hup : upB cLt (hs.map dat) = true) (h : FindAt (hs.map Prod.fst) key i false) : findC (hs.map dat) key = none := by
  obtain ⟨h1, h2, h3, h4⟩ := h
  refine findC_no fun j hj => ?_
  rw [List.length_map] at hj
  simp only [List.getElem_map, dat]
  intro e
  rcases Nat.lt_or_ge j i with hji | hji
  · have h5 := h2 j (by rw [List.length_map]; omega) hji
    rw [List.getElem_map] at h5
    exact kLt_ne h5 e
  · rcases Nat.eq_or_lt_of_le hji with hji | hji
    · subst hji
      have := h4.2 ⟨by rw [List.length_map]; omega, by rw [List.getElem_map]; exact e⟩
      cases this
    · have h5 := h3 i (by rw [List.length_map]; omega) (Nat.le_refl _)
      rw [List.getElem_map] at h5
      have h6 := keys_lt hup hji hj
      rw [e] at h6
      rw [h5] at h6
      cases h6

/-- What l3At hands back: the first place of a key, or -1. -/
def AtPost (hs : List (ByteArray × Option Addr × Nat × List (Int × ByteArray × Bool))) (key : ByteArray) (w : World) (e : Ending) (w' : World) : Prop :=
  ((∃ (k : Nat) (h : k < hs.length), e = .returned (.int .i64 (k : Int)) ∧ hs[k].1 = key ∧ findC (hs.map dat) key = some hs[k].2.2.2) ∨ (e = .returned (.int .i64 (-1)) ∧ findC (hs.map dat) key = none)) ∧ Below w.heap.size w w'

set_option maxRecDepth 100000 in
set_option maxHeartbeats 1000000 in
theorem l3At_any (A : Option Addr) (n c : Nat) (hs : List (ByteArray × Option Addr × Nat × List (Int × ByteArray × Bool))) (key : ByteArray) (B : Nat) (w : World) (hn : hs.length = n) (h : CellsB w B A hs) (hB : B ≤ w.heap.size) (hl : n ≤ 1048576) :
    Calls Try.prog 107 #[.slice A n c, .string key] w (AtPost hs key w) := by
  have HN := Lib.hid hn
  have hge := Nat.le_of_eq hn
  have hle := Nat.le_of_eq hn.symm
  have HS := Lib.hid h
  clear hn h
  go_enter Try.func107, Try.ntmps107
  go_wp2
  go_loopw [9] (fun i wr => ∃ k : Nat, k ≤ n ∧ i = .int .i64 k ∧ Hid (∀ j (h : j < hs.length), j < k → (hs[j]'h).1 ≠ key) ∧ Below w.heap.size w wr) (fun i _ => n - (intOf i).toNat)
  case atStart => exact ⟨0, by omega, rfl, fun j h h' => absurd h' (by omega), Below.refl _ _⟩
  case round =>
    obtain ⟨k, hk, rfl, HNo, hb⟩ := hrel
    by_cases hlt : k < n
    · obtain ⟨b, off, rfl, hbB, hc⟩ := HS.out.get (by omega)
      obtain ⟨hc0, hc1⟩ := hc k (by omega)
      have c0 := (hb.cell (p := ⟨b, off + k * 2, none⟩) (Nat.lt_of_lt_of_le hbB hB)).trans hc0
      have c1 := (hb.cell (p := ⟨b, off + k * 2 + 1, none⟩) (Nat.lt_of_lt_of_le hbB hB)).trans hc1
      obtain ⟨y, hy⟩ : ∃ y, y = hs[k]'(by omega) := ⟨_, rfl⟩
      rw [← hy] at c0 c1
      have HY := Lib.hid hy
      obtain ⟨s1, ad, cp, vs⟩ := y
      simp only at c0 c1
      have hw1 := below1 wr (.cells #[.string s1, .slice ad vs.length cp] 81)
      have HB1 := Lib.hid (hb.trans (hw1.mono hb.size))
      clear hc hc0 hc1 hy hb hw1
      by_cases he : s1 = key
      · have hkb : (s1.toList == key.toList) = true := by rw [he]; simp
        have HP := Lib.hid (show ∃ (k' : Nat) (h : k' < hs.length), Ending.returned (.int .i64 (k : Int)) = .returned (.int .i64 (k' : Int)) ∧ hs[k'].1 = key ∧ findC (hs.map dat) key = some hs[k'].2.2.2 from
          ⟨k, by omega, rfl, by rw [← HY.out]; exact he, by
            have := findC_at (l := hs.map dat) (key := key) (k := k) (by simp; omega) (by simp only [List.getElem_map, dat]; rw [← HY.out]; exact he) (fun j hj => by simp only [List.getElem_map, dat]; exact HNo.out j (by omega) hj)
            simpa [dat] using this⟩)
        clear he
        go_wp2
        go_ret
        exact ⟨.inl HP.out, HB1.out⟩
      · have hkb : (s1.toList == key.toList) = false := beq_eq_false_iff_ne.2 fun e => he (list_inj e)
        have HNo' := Lib.hid (show ∀ j (h : j < hs.length), j < k + 1 → (hs[j]'h).1 ≠ key from fun j h h' => by
          rcases Nat.lt_or_ge j k with h1 | h1
          · exact HNo.out j h h1
          · obtain rfl : j = k := by omega
            rw [← HY.out]; exact he)
        clear he
        go_wp2
        go_roundw
        case rel => exact ⟨k + 1, by omega, by go_num, HNo'.out, HB1.out⟩
        case measure => simp [intOf]; omega
    · have HF := Lib.hid (show findC (hs.map dat) key = none from findC_no fun j hj => by rw [List.length_map] at hj; simp only [List.getElem_map, dat]; exact HNo.out j hj (by omega))
      go_wp2
      go_ret
      exact ⟨.inr ⟨rfl, HF.out⟩, hb⟩

/-- The last time of a key. -/
def lastOf (cs : List (ByteArray × List (Int × ByteArray × Bool))) (key : ByteArray) : Int := match findC cs key with | some vs => lastT vs | none => 0
theorem lastOf_some {cs : List (ByteArray × List (Int × ByteArray × Bool))} {key : ByteArray} {vs : List (Int × ByteArray × Bool)} (h : findC cs key = some vs) : lastOf cs key = lastT vs := by unfold lastOf; rw [h]
theorem lastOf_none {cs : List (ByteArray × List (Int × ByteArray × Bool))} {key : ByteArray} (h : findC cs key = none) : lastOf cs key = 0 := by unfold lastOf; rw [h]

set_option maxRecDepth 100000 in
set_option maxHeartbeats 1000000 in
theorem l3Last_any (A : Option Addr) (n c : Nat) (hs : List (ByteArray × Option Addr × Nat × List (Int × ByteArray × Bool))) (key : ByteArray) (B : Nat) (w : World) (hn : hs.length = n) (h : CellsB w B A hs) (hB : B ≤ w.heap.size) (hl : n ≤ 1048576)
    (hp : ∀ k (h : k < hs.length), 1 ≤ (hs[k]'h).2.2.2.length ∧ (hs[k]'h).2.2.2.length ≤ 1048576) :
    Calls Try.prog 74 #[.slice A n c, .string key] w fun e w' => e = .returned (.int .i64 (lastOf (hs.map dat) key)) ∧ Below w.heap.size w w' := by
  have HN := Lib.hid hn
  have hge := Nat.le_of_eq hn
  have hle := Nat.le_of_eq hn.symm
  have HS := Lib.hid h
  have HP := Lib.hid hp
  have HC := Lib.hid (l3At_any A n c hs key B w hn h hB hl)
  clear hn h hp
  go_enter Try.func74, Try.ntmps74
  go_wp2_with fail
  refine HC.out.mono ?_
  rintro e w4 ⟨h4, hb4⟩
  rcases h4 with ⟨k, hk, rfl, hkey, hf⟩ | ⟨rfl, hf⟩
  · obtain ⟨b, off, rfl, hbB, hc⟩ := HS.out.get (by omega)
    obtain ⟨hc0, hc1⟩ := hc k (by omega)
    have c1 := (hb4.cell (p := ⟨b, off + k * 2 + 1, none⟩) (Nat.lt_of_lt_of_le hbB hB)).trans hc1
    have hv := (HS.out.vers k hk).below (hb4.mono hB)
    have hpk := HP.out k hk
    obtain ⟨y, hy⟩ : ∃ y, y = hs[k]'hk := ⟨_, rfl⟩
    rw [← hy] at c1 hv hpk hf
    obtain ⟨s1, ad, cp, vs⟩ := y
    simp only at c1 hv hpk hf
    obtain ⟨f, fo, rfl, hfB, hg⟩ := hv.get (by omega)
    obtain ⟨M, hM⟩ : ∃ M, M = vs.length - 1 := ⟨_, rfl⟩
    have e0 := (hg M (by omega)).1
    have HL := Lib.hid (show lastOf (hs.map dat) key = (vs[M]'(by omega)).1 by rw [lastOf_some hf, lastT_at vs (by omega)]; simp only [hM])
    obtain ⟨z, hz⟩ : ∃ z, z = (vs[M]'(by omega)).1 := ⟨_, rfl⟩
    rw [← hz] at e0 HL
    have hvl : vs.length = M + 1 := by omega
    rw [hvl] at c1 hpk
    have hk0 : (0 : Int) ≤ (k : Int) := by omega
    have hkn : (k : Int) < (n : Int) := by omega
    have HB4 := Lib.hid hb4
    have HR := Lib.hid (ret_int (k := .i64) HL.out.symm)
    clear hc hc0 hc1 hy hb4 hg hM hz hf hkey hv hvl HL
    go_wp2_with fail
    go_quiet (fail)
    go_wp2
    go_ret
    exact ⟨HR.out, below_drewN HB4.out _⟩
  · have HR := Lib.hid (ret_int (k := .i64) (lastOf_none hf).symm)
    clear hf
    go_wp2
    go_ret
    exact ⟨HR.out, hb4⟩

/-- What LastTime hands back. -/
def ltOk (cs : List (ByteArray × List (Int × ByteArray × Bool))) (key : ByteArray) : Bool := csB cs && keyB key
def ltN (cs : List (ByteArray × List (Int × ByteArray × Bool))) (key : ByteArray) : Int := if ltOk cs key then lastOf cs key else 0
theorem lt_no {cs : List (ByteArray × List (Int × ByteArray × Bool))} {key : ByteArray} (h : ltOk cs key = false) : Ending.returned (.tuple #[.int .i64 0, .bool false]) = .returned (.tuple #[.int .i64 (ltN cs key), .bool (ltOk cs key)]) := by unfold ltN; rw [h]; rfl
theorem lt_yes {cs : List (ByteArray × List (Int × ByteArray × Bool))} {key : ByteArray} {z : Int} (h : ltOk cs key = true) (hz : lastOf cs key = z) : Ending.returned (.tuple #[.int .i64 z, .bool true]) = .returned (.tuple #[.int .i64 (ltN cs key), .bool (ltOk cs key)]) := by unfold ltN; rw [h, ← hz]; rfl
/-- What good cells give of each. -/
theorem good_pos {hs : List (ByteArray × Option Addr × Nat × List (Int × ByteArray × Bool))} (h : csB (hs.map dat) = true) : ∀ k (hk : k < hs.length), 1 ≤ (hs[k]'hk).2.2.2.length ∧ (hs[k]'hk).2.2.2.length ≤ 1048576 := fun k hk => by
  have h1 := vsB_true ((csB_true h).2.2 k hk).2
  exact ⟨h1.2.2.1, by have := h1.2.2.2; omega⟩

set_option maxRecDepth 100000 in
set_option maxHeartbeats 1000000 in
theorem specLastTime_any (A : Option Addr) (n c : Nat) (hs : List (ByteArray × Option Addr × Nat × List (Int × ByteArray × Bool))) (key : ByteArray) (B : Nat) (w : World) (hn : hs.length = n) (h : CellsB w B A hs) (hB : B ≤ w.heap.size) (hm : HSmall hs) (hk : key.size ≤ 1048576) :
    Calls Try.prog 29 #[.slice A n c, .string key] w fun e w' => e = .returned (.tuple #[.int .i64 (ltN (hs.map dat) key), .bool (ltOk (hs.map dat) key)]) ∧ Below w.heap.size w w' := by
  have hnl : n ≤ 1048576 := by rw [← hn]; exact hm.1
  have HG := Lib.hid (l3Good_any A n c hs B w hn h hB hm)
  have HK := Lib.hid (fun W => l3Key_any key W hk)
  have HS := Lib.hid h
  have HN := Lib.hid hn
  clear hn h hm
  cases h1 : csB (hs.map dat) with
  | false =>
    rw [h1] at HG
    have HR := Lib.hid (lt_no (cs := hs.map dat) (key := key) (by simp [ltOk, h1]))
    clear h1
    go_enter Try.func29, Try.ntmps29
    go_wp2_with fail
    refine HG.out.mono ?_
    rintro e w4 ⟨rfl, hb4⟩
    go_wp2
    go_ret2
    exact ⟨HR.out, hb4⟩
  | true =>
    rw [h1] at HG
    have HG1 := Lib.hid h1
    clear h1
    cases h2 : keyB key with
    | false =>
      rw [h2] at HK
      have HR := Lib.hid (lt_no (cs := hs.map dat) (key := key) (by simp [ltOk, h2]))
      clear h2
      go_enter Try.func29, Try.ntmps29
      go_wp2_with fail
      refine HG.out.mono ?_
      rintro e w4 ⟨rfl, hb4⟩
      go_wp2_with fail
      refine (HK.out _).mono ?_
      rintro e w5 ⟨rfl, q, rfl⟩
      go_wp2
      go_ret2
      exact ⟨HR.out, below_drewN hb4 _⟩
    | true =>
      rw [h2] at HK
      have HR := Lib.hid (lt_yes (cs := hs.map dat) (key := key) (by simp [ltOk, HG1.out, h2]) rfl)
      have HC := Lib.hid (fun W (hW : Below w.heap.size w W) => l3Last_any A n c hs key B W HN.out (HS.out.below (hW.mono hB)) (Nat.le_trans hB hW.size) hnl (good_pos HG1.out))
      clear h2
      go_enter Try.func29, Try.ntmps29
      go_wp2_with fail
      refine HG.out.mono ?_
      rintro e w4 ⟨rfl, hb4⟩
      go_wp2_with fail
      refine (HK.out _).mono ?_
      rintro e w5 ⟨rfl, q, rfl⟩
      have HB5 := Lib.hid (below_drewN hb4 q)
      go_wp2_with fail
      refine (HC.out _ HB5.out).mono ?_
      rintro e w6 ⟨rfl, hb6⟩
      have HB6 := Lib.hid (HB5.out.trans (hb6.mono HB5.out.size))
      clear hb6 hb4
      go_wp2
      go_ret2
      exact ⟨HR.out, HB6.out⟩

set_option maxRecDepth 100000 in
set_option maxHeartbeats 1000000 in
theorem lastTime_any (A : Option Addr) (n c : Nat) (hs : List (ByteArray × Option Addr × Nat × List (Int × ByteArray × Bool))) (key : ByteArray) (B : Nat) (w : World) (hn : hs.length = n) (h : CellsB w B A hs) (hB : B ≤ w.heap.size) (hm : HSmall hs) (hk : key.size ≤ 1048576) :
    Calls Try.prog 25 #[.slice A n c, .string key] w fun e w' => e = .returned (.tuple #[.int .i64 (ltN (hs.map dat) key), .bool (ltOk (hs.map dat) key)]) ∧ Below w.heap.size w w' := by
  have hnl : n ≤ 1048576 := by rw [← hn]; exact hm.1
  have HG := Lib.hid (goodCells_any A n c hs B w hn h hB hm)
  have HK := Lib.hid (fun W => goodKey_any key W hk)
  have HS := Lib.hid h
  have HN := Lib.hid hn
  have hge := Nat.le_of_eq hn
  clear hn h hm
  cases h1 : csB (hs.map dat) with
  | false =>
    rw [h1] at HG
    have HR := Lib.hid (lt_no (cs := hs.map dat) (key := key) (by simp [ltOk, h1]))
    clear h1
    go_enter Try.func25, Try.ntmps25
    go_wp2_with fail
    refine HG.out.mono ?_
    rintro e w4 ⟨rfl, hb4⟩
    go_wp2
    go_ret2
    exact ⟨HR.out, hb4⟩
  | true =>
    rw [h1] at HG
    have HG1 := Lib.hid h1
    clear h1
    cases h2 : keyB key with
    | false =>
      rw [h2] at HK
      have HR := Lib.hid (lt_no (cs := hs.map dat) (key := key) (by simp [ltOk, h2]))
      clear h2
      go_enter Try.func25, Try.ntmps25
      go_wp2_with fail
      refine HG.out.mono ?_
      rintro e w4 ⟨rfl, hb4⟩
      go_wp2_with fail
      refine (HK.out _).mono ?_
      rintro e w5 ⟨rfl, rfl⟩
      go_wp2
      go_ret2
      exact ⟨HR.out, hb4⟩
    | true =>
      rw [h2] at HK
      have HR := Lib.hid (fun z hz => lt_yes (cs := hs.map dat) (key := key) (z := z) (by simp [ltOk, HG1.out, h2]) hz)
      have HC := Lib.hid (fun W (hW : Below w.heap.size w W) => findCell_any A n c hs key B W HN.out (HS.out.below (hW.mono hB)) (Nat.le_trans hB hW.size) hnl (csB_true HG1.out).1)
      clear h2
      go_enter Try.func25, Try.ntmps25
      go_wp2_with fail
      refine HG.out.mono ?_
      rintro e w4 ⟨rfl, hb4⟩
      go_wp2_with fail
      refine (HK.out _).mono ?_
      rintro e w5 ⟨rfl, rfl⟩
      have HB5 := Lib.hid hb4
      clear hb4
      go_wp2_with fail
      refine (HC.out _ HB5.out).mono ?_
      rintro e w6 ⟨i, f, rfl, hf, hb6⟩
      have HB6 := Lib.hid (HB5.out.trans (hb6.mono HB5.out.size))
      clear hb6
      cases f with
      | false =>
        have HRN := Lib.hid (HR.out 0 (lastOf_none (hf.no (csB_true HG1.out).1)))
        clear hf
        go_wp2
        go_ret2
        exact ⟨HRN.out, HB6.out⟩
      | true =>
        obtain ⟨hi, hkey, hfc⟩ := hf.yes
        obtain ⟨b, off, rfl, hbB, hc⟩ := HS.out.get (by omega)
        obtain ⟨hc0, hc1⟩ := hc i (by omega)
        have c1 := (HB6.out.cell (p := ⟨b, off + i * 2 + 1, none⟩) (Nat.lt_of_lt_of_le hbB hB)).trans hc1
        have hv := (HS.out.vers i hi).below (HB6.out.mono hB)
        have hpk := good_pos HG1.out i hi
        obtain ⟨y, hy⟩ : ∃ y, y = hs[i]'hi := ⟨_, rfl⟩
        rw [← hy] at c1 hv hpk hfc
        obtain ⟨s1, ad, cp, vs⟩ := y
        simp only at c1 hv hpk hfc
        obtain ⟨fb, fo, rfl, hfB, hg⟩ := hv.get (by omega)
        obtain ⟨M, hM⟩ : ∃ M, M = vs.length - 1 := ⟨_, rfl⟩
        have e0 := (hg M (by omega)).1
        have HL := Lib.hid (HR.out _ (show lastOf (hs.map dat) key = (vs[M]'(by omega)).1 by rw [lastOf_some hfc, lastT_at vs (by omega)]; simp only [hM]))
        obtain ⟨z, hz⟩ : ∃ z, z = (vs[M]'(by omega)).1 := ⟨_, rfl⟩
        rw [← hz] at e0 HL
        have hvl : vs.length = M + 1 := by omega
        rw [hvl] at c1 hpk
        have hk0 : (0 : Int) ≤ (i : Int) := by omega
        have hkn : (i : Int) < (n : Int) := by omega
        clear hc hc0 hc1 hy hg hM hz hfc hkey hv hvl hf
        go_wp2
        go_ret2
        exact ⟨HL.out, HB6.out⟩
end Go.Proofs.Ytcefofgdbmnkdaa
