/-
  Contracts for the seal: l1Three, l1Seal of the model, sealOf of the program.
-/
import Derived.Test.YtodfefaknclemaaSumLaw
import Derived.Test.YtodfefaknclemaaNum
import Derived.ArgAppend
import Derived.Laws.ResultCell
import Derived.Laws.Pointers
import Derived.WalkLawsBesides
import Derived.WalkSpells
namespace Go.Proofs.Ytodfefaknclemaa
open Go.RowKit

/-- The three bytes of a number below 2^24, most significant first. -/
def three (n : Nat) : List UInt8 := [UInt8.ofNat (n / 65536), UInt8.ofNat (n / 256 % 256), UInt8.ofNat (n % 256)]
theorem b8_of (k : Nat) (h : k < 256) : ((UInt8.ofNat k).toNat : Int) = (k : Int) := by simp [UInt8.toNat_ofNat']; omega

theorem three_cells (m : Nat) (hm : m < 16000057) : (B8 (three m)).toArray = #[.int .u8 ((m : Int) / 65536), .int .u8 ((m : Int) / 256 % 256), .int .u8 ((m : Int) % 256)] := by
  have h1 := b8_of (m / 65536) (by omega)
  have h2 := b8_of (m / 256 % 256) (by omega)
  have h3 := b8_of (m % 256) (by omega)
  simp only [B8, three, List.map_cons, List.map_nil]
  rw [h1, h2, h3]
  simp

/-- 'string(b)' of a new row of bytes. -/
theorem conv_new (w : World) (l : List UInt8) (c : Nat) : (convert 22 9 (.slice (some ⟨w.heap.size, 0, none⟩) l.length c)).run Try.prog (w.alloc (.cells (B8 l).toArray 5)) = .ok (.string ⟨l.toArray⟩) (w.alloc (.cells (B8 l).toArray 5)) := by
  refine run_convert_bytes_back (w.alloc (.cells (B8 l).toArray 5)) 22 9 5 ⟨w.heap.size, 0, none⟩ c l Try.underlying22 Try.underlying5 Try.underlying9 (fun j hj => ?_)
  have hadd : (⟨w.heap.size, 0, none⟩ : Addr).add j = ⟨w.heap.size, j, none⟩ := by unfold Addr.add; split <;> simp_all
  rw [hadd, cell_of_row _ w.heap.size j _ 5 (0, 0) (heap_alloc_new w _)]
  simp [B8, List.getElem?_eq_getElem hj]

set_option maxHeartbeats 1000000 in
theorem l1Three_any (m : Nat) (w : World) (hm : m < 16000057) :
    Calls Try.prog 79 #[.int .i64 (m : Int)] w fun e w' => e = .returned (.string ⟨(three m).toArray⟩) ∧ Below w.heap.size w w' := by
  have hcv := conv_new w (three m) 3
  rw [three_cells m hm] at hcv
  have e3 : (three m).length = 3 := rfl
  rw [e3] at hcv
  clear e3
  go_enter Try.func79, Try.ntmps79
  go_wp2
  go_ret
  exact ⟨rfl, (Below.refl _ _).alloc (Nat.le_refl _) _⟩

set_option maxHeartbeats 1000000 in
theorem l1Seal_any (s : ByteArray) (w : World) (hs : s.size ≤ 1048576) :
    Calls Try.prog 68 #[.string s] w fun e w' => e = .returned (.string ⟨(s.data.toList ++ three (M.sumL s.data.toList)).toArray⟩) ∧ Below w.heap.size w w' := by
  have hlt := M.sumL_lt s.data.toList
  obtain ⟨m, hm⟩ : ∃ m, m = M.sumL s.data.toList := ⟨_, rfl⟩
  have hl1 := l1Sum_any s w (by unfold maxLen; omega)
  rw [← hm] at hlt hl1 ⊢
  have HL1 := Lib.hid hl1
  have hadd := fun (W : World) => run_string_add_sum (P := Try.prog) (w := W) s ⟨(three m).toArray⟩ (by have e := size_of_list (three m); have e3 : (three m).length = 3 := rfl; omega)
  have e0 : s ++ (⟨(three m).toArray⟩ : ByteArray) = ⟨(s.data.toList ++ three m).toArray⟩ := by
    apply ByteArray.ext
    apply Array.ext'
    simp
  simp only [e0] at hadd
  clear e0 hm hl1
  go_enter Try.func68, Try.ntmps68
  go_wp2_with fail
  refine HL1.out.mono ?_
  rintro e w' ⟨rfl, rfl⟩
  go_wp2_with fail
  refine (l1Three_any m _ hlt).mono ?_
  rintro e w1 ⟨rfl, hb1⟩
  go_wp2
  go_ret
  exact ⟨rfl, hb1⟩

theorem BytesAt.below {w w' : World} {A : Option Addr} {l : List UInt8} (h : BytesAt w A l) (hb : Below w.heap.size w w') : BytesAt w' A l := by
  rcases h with h | ⟨b, off, hA, hlt, hc⟩
  · exact .inl h
  · exact .inr ⟨b, off, hA, Nat.lt_of_lt_of_le hlt hb.size, fun k hk => (hb.cell (p := ⟨b, off + k, none⟩) hlt).trans (hc k hk)⟩
theorem BytesAt.alloc {w : World} {A : Option Addr} {l : List UInt8} (h : BytesAt w A l) (o : Obj) : BytesAt (w.alloc o) A l := h.below ((Below.refl _ _).alloc (Nat.le_refl _) o)

set_option maxHeartbeats 1000000 in
theorem sealOf_any (A : Option Addr) (n c : Nat) (l : List UInt8) (w : World) (hn : l.length = n) (h : BytesAt w A l) (hl : n ≤ maxLen) :
    Calls Try.prog 67 #[.slice A n c] w fun e w' => e = .returned (.agg #[.int .u8 ((M.sumL l : Nat) / 65536 : Int), .int .u8 ((M.sumL l : Nat) / 256 % 256 : Int), .int .u8 ((M.sumL l : Nat) % 256 : Int)]) ∧ Below w.heap.size w w' := by
  have hs := M.sumL_lt l
  obtain ⟨m, hm⟩ : ∃ m, m = M.sumL l := ⟨_, rfl⟩
  have hsb := fun W hW => sumBytes_any A n c l W hn hW hl
  rw [← hm] at hs hsb ⊢
  have HSB := Lib.hid hsb
  have HB := Lib.hid h
  clear hm hsb h
  go_enter Try.func67, Try.ntmps67
  go_wp2_with fail
  refine (HSB.out _ (HB.out.alloc _)).mono ?_
  rintro e w1 ⟨rfl, rfl⟩
  go_wp2
  exact bodyPost_ret (v := .agg #[.int .u8 ((m : Int) / 65536), .int .u8 ((m : Int) / 256 % 256), .int .u8 ((m : Int) % 256)]) (by simp [results, Try.results67, go_sem]) rfl ⟨rfl, (Below.refl _ _).alloc (Nat.le_refl _) _⟩

/-- What sealOf hands back. -/
def sealVal (m : Nat) : Value := .agg #[.int .u8 ((m : Int) / 65536), .int .u8 ((m : Int) / 256 % 256), .int .u8 ((m : Int) % 256)]
/-- The sealed bytes. -/
def sealed (l : List UInt8) : List UInt8 := l ++ three (M.sumL l)

set_option maxHeartbeats 1000000 in
theorem specSeal_yes (s : ByteArray) (w : World) (hs : s.size ≤ 5997) :
    Calls Try.prog 36 #[.string s] w fun e w' => e = .returned (.tuple #[.string ⟨(sealed s.data.toList).toArray⟩, .bool true]) ∧ Below w.heap.size w w' := by
  go_enter Try.func36, Try.ntmps36
  go_wp2_with fail
  refine (l1Seal_any s _ (by omega)).mono ?_
  rintro e w' ⟨rfl, hb⟩
  go_wp2
  go_ret2
  exact ⟨rfl, hb⟩

set_option maxHeartbeats 1000000 in
theorem specSeal_no (s : ByteArray) (w : World) (hm : s.size ≤ maxLen) (hs : 5997 < s.size) :
    Calls Try.prog 36 #[.string s] w fun e w' => e = .returned (.tuple #[.string ⟨#[]⟩, .bool false]) ∧ w = w' := by
  unfold maxLen at hm
  go_enter Try.func36, Try.ntmps36
  go_wp2
  go_ret2
  exact ⟨rfl, rfl⟩

set_option maxHeartbeats 1000000 in
theorem implSeal_no (s : ByteArray) (w : World) (hm : s.size ≤ maxLen) (hs : 5997 < s.size) :
    Calls Try.prog 35 #[.string s] w fun e w' => e = .returned (.tuple #[.string ⟨#[]⟩, .bool false]) ∧ w = w' := by
  unfold maxLen at hm
  go_enter Try.func35, Try.ntmps35
  go_wp2
  go_ret2
  exact ⟨rfl, rfl⟩

theorem below_setCells {B g : Nat} (hg : B ≤ g) (vs : List Value) (o : Nat) {a w : World} (h : Below B a w) : Below B a (w.setCells g o vs) := by
  induction vs generalizing o w with
  | nil => exact h
  | cons v vs ih => exact ih (o + 1) (h.setCell (p := ⟨g, o, none⟩) hg v)

/-- The row that '[]byte(s)' lays: its cells are there, and none of them is frozen. -/
def SRow (W : World) (g : Nat) (s : ByteArray) (cap : Nat) : Prop := s.size ≤ cap ∧ W.heap[g]? = some (.cells (bytesRow s cap) 5 ((bytesRow s cap).size, (bytesRow s cap).size + 1))
section
variable {W W' : World} {g cap : Nat} {s : ByteArray}
theorem bytesRow_size (h : s.size ≤ cap) : (bytesRow s cap).size = cap := by
  have : s.data.size = s.size := rfl
  simp only [bytesRow, Array.size_append, Array.size_map, Array.size_replicate]
  omega
theorem SRow.below (h : SRow W g s cap) (hb : Below W.heap.size W W') : SRow W' g s cap := ⟨h.1, (hb.block g (Array.getElem?_eq_some_iff.1 h.2).1).trans h.2⟩
theorem SRow.lt (h : SRow W g s cap) : g < W.heap.size := (Array.getElem?_eq_some_iff.1 h.2).1
theorem SRow.olds (h : SRow W g s cap) : ∀ j u, (B8 s.data.toList)[j]? = some u → W.cell? ⟨g, 0 + j, none⟩ = some u := by
  intro j u hj
  have hjl : j < s.data.toList.length := by
    have := (List.getElem?_eq_some_iff.1 hj).1
    rwa [B8_len] at this
  rw [cell_of_row W g (0 + j) _ _ _ h.2, Nat.zero_add, bytesRow_at s cap j (by simpa using hjl), ← hj]
  simp only [B8, List.getElem?_map, List.getElem?_eq_getElem hjl, Option.map_some]
  rfl
theorem SRow.at_ (h : SRow W g s cap) (j : Nat) (hj : j < cap) : (W.cell? ⟨g, j, none⟩).isSome = true ∧ W.frozen? ⟨g, j, none⟩ = false := by
  have hz := bytesRow_size h.1
  refine ⟨?_, ?_⟩
  · rw [cell_of_row W g j _ _ _ h.2, Array.getElem?_eq_getElem (by omega)]; rfl
  · simp only [World.frozen?, h.2]
    rw [hz]
    simp; omega
theorem SRow.spare (h : SRow W g s cap) (hr : s.size + 3 ≤ cap) (news : List Value) (hn : news.length = 3) : ∀ j, j < news.length → (W.cell? ⟨g, 0 + s.size * 1 + j, none⟩).isSome = true ∧ W.frozen? ⟨g, 0 + s.size * 1 + j, none⟩ = false :=
  fun j hj => h.at_ _ (by omega)
/-- The bytes and three more, written behind them: as a string. -/
theorem SRow.conv (h : SRow W g s cap) (hr : s.size + 3 ≤ cap) (t : List UInt8) (ht : t.length = 3) :
    (convert 22 9 (.slice (some ⟨g, 0, none⟩) (s.size + 3) cap)).run Try.prog (W.setCells g s.size (B8 t)) = .ok (.string ⟨(s.data.toList ++ t).toArray⟩) (W.setCells g s.size (B8 t)) := by
  have hl : (s.data.toList ++ t).length = s.size + 3 := by simp [ht]
  have hd : s.data.toList.length = s.size := by simp
  rw [← hl]
  refine run_convert_bytes_back _ 22 9 5 ⟨g, 0, none⟩ cap _ Try.underlying22 Try.underlying5 Try.underlying9 (fun j hj => ?_)
  have hadd : (⟨g, 0, none⟩ : Addr).add j = ⟨g, j, none⟩ := by unfold Addr.add; split <;> simp_all
  rw [hadd]
  rcases Nat.lt_or_ge j s.size with h1 | h1
  · rw [World.cell?_setCells_out g (B8 t) s.size W ⟨g, j, none⟩ (fun _ _ => .inl h1)]
    have := h.olds j (.int .u8 (s.data.toList[j].toNat : Int)) (by simp [B8, List.getElem?_eq_getElem (show j < s.data.toList.length by omega)])
    rw [Nat.zero_add] at this
    rw [this, List.getElem_append_left (by omega)]
  · have hin := World.cell?_setCells_in g (B8 t) s.size W (fun i hi => by rw [B8_len] at hi; exact (h.at_ (s.size + i) (by omega)).1) (j - s.size) (by rw [B8_len]; omega)
    rw [show s.size + (j - s.size) = j from by omega] at hin
    rw [hin, List.getElem_append_right (by omega)]
    simp [B8]
end
theorem three_news (m : Nat) (hm : m < 16000057) : B8 (three m) = [.int .u8 ((m : Int) / 65536), .int .u8 ((m : Int) / 256 % 256), .int .u8 ((m : Int) % 256)] := by
  have h := three_cells m hm
  have := congrArg Array.toList h
  simpa using this

set_option maxRecDepth 100000 in
set_option maxHeartbeats 1000000 in
theorem implSeal_yes (s : ByteArray) (w : World) (hs : s.size ≤ 5997) :
    Calls Try.prog 35 #[.string s] w fun e w' => e = .returned (.tuple #[.string ⟨(sealed s.data.toList).toArray⟩, .bool true]) ∧ Below w.heap.size w w' := by
  obtain ⟨cap, w1, hconv, hrow, hcap, hbel, hsz⟩ := conv_bytes s w
  obtain ⟨i0, hi, hz0, hz1, hz2⟩ := info_parts info5
  have hm := M.sumL_lt s.data.toList
  obtain ⟨m, hmd⟩ : ∃ m, m = M.sumL s.data.toList := ⟨_, rfl⟩
  have hso := fun W hW => sealOf_any (some ⟨w.heap.size, 0, none⟩) s.size cap s.data.toList W (by simp) hW (by unfold maxLen; omega)
  rw [← hmd] at hm hso
  have HM := Lib.hid hmd
  have HSO := Lib.hid hso
  have HR := Lib.hid (show SRow w1 w.heap.size s cap from ⟨hcap, hrow⟩)
  have HN := Lib.hid (three_news m hm)
  clear hrow hsz hmd hso
  go_enter Try.func35, Try.ntmps35
  go_wp2_with fail
  refine (HSO.out _ (bytesAt_row HR.out.2)).mono ?_
  rintro e w2 ⟨rfl, hb2⟩
  have hbw2 := hbel.trans (hb2.mono hbel.size)
  have hR2 := HR.out.below hb2
  have hR3 := hR2.below ((Below.refl _ _).alloc (Nat.le_refl _) (.cells #[.int .u8 ((m : Int) / 65536), .int .u8 ((m : Int) / 256 % 256), .int .u8 ((m : Int) % 256)] 69))
  have hb3 := hbw2.alloc hbw2.size (.cells #[.int .u8 ((m : Int) / 65536), .int .u8 ((m : Int) / 256 % 256), .int .u8 ((m : Int) % 256)] 69)
  have HB3 := Lib.hid hb3
  have HR3 := Lib.hid hR3
  have h1 : B8 s.data.toList = B8 s.data.toList := rfl
  clear hR2 hR3 hb3 h1
  by_cases hr : s.size + 3 ≤ cap
  · have hcv := HR3.out.conv hr (three m) rfl
    rw [HN.out] at hcv
    go_wp2_with (at_builtin; refine wpList_append_arg _ rfl (.tmp 13) (.tmp 14) 22 rfl 5 i0 (.int .u8 0) 1 1 Try.underlying22 hi hz0 hz1 hz2 rfl (by decide) w.heap.size 0 s.size cap (B8 s.data.toList) rfl (by rw [B8_len]; simp) HR3.out.olds ⟨w2.heap.size, 0, none⟩ 3 3 [.int .u8 ((m : Int) / 65536), .int .u8 ((m : Int) / 256 % 256), .int .u8 ((m : Int) % 256)] rfl rfl (World.news_of_block (fr := (0, 0)) (heap_alloc_new w2 _)) (by intro u hu; simp at hu; rcases hu with rfl | rfl | rfl <;> rfl) (fun h => HR3.out.spare h _ rfl) (by unfold maxLen; omega) (by omega) (fun _ => ?_) (fun h => absurd h (by omega)))
    go_ret2
    exact ⟨by unfold sealed; rw [← HM.out]; rfl, below_setCells (Nat.le_refl _) _ _ HB3.out⟩
  · go_wp2_with (at_builtin; refine wpList_append_arg _ rfl (.tmp 13) (.tmp 14) 22 rfl 5 i0 (.int .u8 0) 1 1 Try.underlying22 hi hz0 hz1 hz2 rfl (by decide) w.heap.size 0 s.size cap (B8 s.data.toList) rfl (by rw [B8_len]; simp) HR3.out.olds ⟨w2.heap.size, 0, none⟩ 3 3 [.int .u8 ((m : Int) / 65536), .int .u8 ((m : Int) / 256 % 256), .int .u8 ((m : Int) % 256)] rfl rfl (World.news_of_block (fr := (0, 0)) (heap_alloc_new w2 _)) (by intro u hu; simp at hu; rcases hu with rfl | rfl | rfl <;> rfl) (fun h => HR3.out.spare h _ rfl) (by unfold maxLen; omega) (by omega) (fun h => absurd h hr) (fun _ => ?_); intro v4 w4 hown4 hg4; rw [← HN.out, ← B8_app] at hown4; have hcv := conv_back hown4)
    go_ret2
    exact ⟨by unfold sealed; rw [← HM.out]; rfl, HB3.out.grown hg4 HB3.out.size (by simp)⟩
end Go.Proofs.Ytodfefaknclemaa
