/-
  Contracts for the keys of a record by the model: l4KeysOf.
-/
import Derived.Test.YtndmjeaafnbgaaaPutK
namespace Go.Proofs.Ytndmjeaafnbgaaa
open Go.RowKit CM
set_option linter.unusedVariables false

theorem l4PutS_any (A : Option Addr) (c : Nat) (l : List ByteArray) (s : ByteArray) (w : World) (h : StrsB w w.heap.size A l) (hk : KForm A c l) (hup : upB kLt l = true) (hl : l.length ≤ 1048576) :
    Calls Try.prog 169 #[.slice A l.length c, .string s] w (PutKPost l s w) := by
  rcases hk with ⟨rfl, rfl, rfl⟩ | ⟨b, rfl, h1, h2⟩
  · exact l4PutS_nil s w
  · exact l4PutS_some b l.length c l s w rfl h1 h2 h hup hl

/-- The keys put so far. -/
def KRel (rs ks : List ByteArray) (w : World) (v : Value) (wr : World) : Prop :=
  ∃ A c R, v = .slice A R.length c ∧ StrsB wr wr.heap.size A R ∧ KForm A c R ∧ KeysRel R rs ks ∧ R.length ≤ rs.length + ks.length ∧ Below w.heap.size w wr
theorem KRel.zero (w : World) : KRel [] [] w (.slice none 0 0) w := ⟨none, 0, [], rfl, .inl rfl, .inl ⟨rfl, rfl, rfl⟩, ⟨rfl, by simp⟩, by simp, Below.refl _ _⟩
theorem KRel.put {rs ks rs' ks' R : List ByteArray} {A : Option Addr} {c : Nat} {s : ByteArray} {w wr w' : World} {e : Ending} (hK : KeysRel R rs ks) (hL : R.length ≤ rs.length + ks.length) (hb : Below w.heap.size w wr) (h : PutKPost R s wr e w') (hs : ∀ x, x ∈ rs' ∨ x ∈ ks' ↔ x = s ∨ (x ∈ rs ∨ x ∈ ks)) (hn : rs.length + ks.length + 1 ≤ rs'.length + ks'.length) :
    ∃ v, e = .returned v ∧ KRel rs' ks' w v w' := by
  obtain ⟨A', c', R', rfl, h1, h2, h3, h4, h5, h6⟩ := h
  exact ⟨_, rfl, A', c', R', rfl, h1, h2, ⟨h3, fun x => by rw [h4 x, hK.2 x, hs x]⟩, by omega, hb.trans (h6.mono hb.size)⟩
theorem mem_take_succ {l : List ByteArray} {k : Nat} (h : k < l.length) (x : ByteArray) : x ∈ l.take (k + 1) ↔ x = l[k] ∨ x ∈ l.take k := by
  rw [List.take_succ_eq_append_getElem h, List.mem_append, List.mem_singleton]
  exact ⟨fun h => h.symm, fun h => h.symm⟩

set_option maxRecDepth 100000 in
set_option maxHeartbeats 2000000 in
theorem l4KeysOf_any (Ar Aw : Option Addr) (nr nw cr cw : Nat) (rs : List ByteArray) (ws : List (ByteArray × ByteArray × Bool)) (B : Nat) (w : World) (hnr : rs.length = nr) (hnw : ws.length = nw) (hr : StrsB w B Ar rs) (hw : WritesB w B Aw ws) (hB : B ≤ w.heap.size) (hlr : nr ≤ 8) (hlw : nw ≤ 8) :
    Calls Try.prog 133 #[.slice Ar nr cr, .slice Aw nw cw] w fun e w' => ∃ v, e = .returned v ∧ KRel rs (ws.map Prod.fst) w v w' := by
  have HNR := Lib.hid hnr
  have HNW := Lib.hid hnw
  have HS := Lib.hid hr
  have HW := Lib.hid hw
  clear hnr hnw hr hw
  go_enter Try.func133, Try.ntmps133
  go_wp2
  go_loopw [5, 12] (fun v i wr => ∃ k : Nat, k ≤ nr ∧ i = .int .i64 k ∧ KRel (rs.take k) [] w v wr) (fun _ i _ => nr - (intOf i).toNat)
  case atStart => exact ⟨0, by omega, rfl, KRel.zero w⟩
  case round =>
    obtain ⟨k, hk, rfl, A, c, R, rfl, hR, hF, hK, hL, hb⟩ := hrel
    by_cases hlt : k < nr
    · obtain ⟨b, off, rfl, hbB, hc⟩ := HS.out.get (by rw [HNR.out]; omega)
      have c0 := (hb.cell (p := ⟨b, off + k, none⟩) (Nat.lt_of_lt_of_le hbB hB)).trans (hc k (by rw [HNR.out]; exact hlt))
      have HMT := Lib.hid (mem_take_succ (l := rs) (k := k) (by rw [HNR.out]; exact hlt))
      obtain ⟨s, hs⟩ : ∃ s, s = rs[k]'(by rw [HNR.out]; exact hlt) := ⟨_, rfl⟩
      rw [← hs] at c0 HMT
      have hRl : R.length ≤ 16 := by have h1 := hL; simp only [List.length_take, List.length_nil] at h1; omega
      have HP := Lib.hid (l4PutS_any A c R s wr hR hF hK.1 (by omega))
      have HKK := Lib.hid (fun e w' (h : PutKPost R s wr e w') => KRel.put (A := A) (c := c) (rs' := rs.take (k + 1)) (ks' := []) hK hL hb h (fun x => by rw [HMT.out x]; simp) (by simp only [List.length_take, List.length_nil, HNR.out]; omega))
      clear hc hs hR hF hK hL hb
      go_wp2_with fail
      refine HP.out.mono ?_
      intro e w' hpost
      obtain ⟨v2, rfl, hrel2⟩ := HKK.out _ _ hpost
      clear hpost
      go_wp2
      go_roundw
      case rel => exact ⟨k + 1, by omega, by go_num, hrel2⟩
      case measure => simp [intOf]; omega
    · have hkn : k = nr := by omega
      subst hkn
      have htk : rs.take k = rs := List.take_of_length_le (by rw [HNR.out]; omega)
      rw [htk] at hK hL
      have HR0 := Lib.hid (show KRel rs ((ws.map Prod.fst).take 0) w (.slice A R.length c) wr from ⟨A, c, R, rfl, hR, hF, by simpa using hK, by simpa using hL, hb⟩)
      clear hR hF hK hL hb htk
      go_wp2
      go_loopw [5, 22] (fun v i wr => ∃ k : Nat, k ≤ nw ∧ i = .int .i64 k ∧ KRel rs ((ws.map Prod.fst).take k) w v wr) (fun _ i _ => nw - (intOf i).toNat)
      case atStart => exact ⟨0, by omega, rfl, HR0.out⟩
      case round =>
        clear HR0
        rename World => wx
        obtain ⟨j, hj, rfl, A, c, R, rfl, hR, hF, hK, hL, hb⟩ := hrel
        by_cases hlt2 : j < nw
        · obtain ⟨b, off, rfl, hbB, hc⟩ := HW.out.get (by rw [HNW.out]; omega)
          obtain ⟨hc0, hc1, hc2⟩ := hc j (by rw [HNW.out]; exact hlt2)
          have c0 := (hb.cell (p := ⟨b, off + j * 3, none⟩) (Nat.lt_of_lt_of_le hbB hB)).trans hc0
          have c1 := (hb.cell (p := ⟨b, off + j * 3 + 1, none⟩) (Nat.lt_of_lt_of_le hbB hB)).trans hc1
          have c2 := (hb.cell (p := ⟨b, off + j * 3 + 2, none⟩) (Nat.lt_of_lt_of_le hbB hB)).trans hc2
          have HMT := Lib.hid (mem_take_succ (l := ws.map Prod.fst) (k := j) (by rw [List.length_map, HNW.out]; exact hlt2))
          rw [List.getElem_map] at HMT
          obtain ⟨y, hy⟩ : ∃ y, y = ws[j]'(by rw [HNW.out]; exact hlt2) := ⟨_, rfl⟩
          rw [← hy] at c0 c1 c2 HMT
          obtain ⟨s, sv, sg⟩ := y
          simp only at c0 c1 c2 HMT
          have hRl : R.length ≤ 16 := by have h1 := hL; simp only [List.length_take, List.length_map, HNR.out] at h1; omega
          have hbx := below1 wx (.cells #[.string s, .string sv, .bool sg] 34)
          have HP := Lib.hid (l4PutS_any A c R s (wx.alloc (.cells #[.string s, .string sv, .bool sg] 34)) ((hR.below hbx).mono hbx.size) hF hK.1 (by omega))
          have HKK := Lib.hid (fun e w' (h : PutKPost R s (wx.alloc (.cells #[.string s, .string sv, .bool sg] 34)) e w') => KRel.put (A := A) (c := c) (rs' := rs) (ks' := (ws.map Prod.fst).take (j + 1)) hK hL (hb.trans (hbx.mono hb.size)) h (fun x => by rw [HMT.out x]; constructor <;> (rintro (h | h | h) <;> simp [h])) (by simp only [List.length_take, List.length_map, HNW.out]; omega))
          clear hc hc0 hc1 hc2 hy hR hF hK hL hb hbx
          go_wp2_with fail
          refine HP.out.mono ?_
          intro e w' hpost
          obtain ⟨v2, rfl, hrel2⟩ := HKK.out _ _ hpost
          clear hpost
          go_wp2
          go_roundw
          case rel => exact ⟨j + 1, by omega, by go_num, hrel2⟩
          case measure => simp [intOf]; omega
        · have hjn : j = nw := by omega
          subst hjn
          have htk : (ws.map Prod.fst).take j = ws.map Prod.fst := List.take_of_length_le (by rw [List.length_map, HNW.out]; omega)
          rw [htk] at hK hL
          have HF := Lib.hid (show ∃ v, Ending.returned (.slice A R.length c) = .returned v ∧ KRel rs (ws.map Prod.fst) w v wx from ⟨_, rfl, A, c, R, rfl, hR, hF, hK, hL, hb⟩)
          clear hR hF hK hL hb htk
          go_wp2
          go_ret
          exact HF.out
end Go.Proofs.Ytndmjeaafnbgaaa
