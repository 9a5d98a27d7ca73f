/-
  Contracts for TextsBytes of program and model, and the walk of the law FnExactTextsBytes.
-/
import Derived.Test.YtodfefaknclemaaStrs
namespace Go.Proofs.Ytodfefaknclemaa
open Go.RowKit

/-- The number of the texts, and the first k of them. -/
def tsum (xs : List ByteArray) (k : Nat) : List UInt8 := M.numB xs.length ++ ((xs.take k).map fun x => textB x.data.toList).flatten
/-- Few and short texts. -/
def Good (xs : List ByteArray) : Prop := xs.length ≤ 40 ∧ ∀ k (h : k < xs.length), xs[k].size ≤ 60

theorem tsum_zero (xs : List ByteArray) : tsum xs 0 = M.numB xs.length := by simp [tsum]
theorem tsum_step (xs : List ByteArray) (k : Nat) (h : k < xs.length) : tsum xs (k + 1) = tsum xs k ++ textB xs[k].data.toList := by
  unfold tsum
  rw [List.take_succ_eq_append_getElem h]
  simp only [List.map_append, List.map_cons, List.map_nil, List.flatten_append, List.flatten_cons, List.flatten_nil, List.append_nil, List.append_assoc]
theorem tsum_len (xs : List ByteArray) (k : Nat) (hk : k ≤ xs.length) (h : ∀ j (hj : j < xs.length), j < k → xs[j].size ≤ 60) : (tsum xs k).length ≤ 10 + 70 * k := by
  induction k with
  | zero => rw [tsum_zero]; have := M.numB_len xs.length; omega
  | succ k ih =>
    rw [tsum_step xs k (by omega), List.length_append]
    have h1 := ih (by omega) (fun j hj hjk => h j hj (by omega))
    have h2 := h k (by omega) (by omega)
    have h3 := M.numB_len xs[k].data.toList.length
    have e : xs[k].data.toList.length = xs[k].size := by simp
    unfold textB
    rw [List.length_append]
    omega

set_option maxRecDepth 100000 in
set_option maxHeartbeats 1000000 in
theorem implTexts_good (A : Option Addr) (n c : Nat) (xs : List ByteArray) (w : World) (hn : xs.length = n) (h : StrsAt w A xs) (hg : Good xs) :
    Calls Try.prog 22 #[.slice A n c] w fun e w' => e = .returned (.tuple #[.string ⟨(tsum xs xs.length).toArray⟩, .bool true]) ∧ Below w.heap.size w w' := by
  have HN := Lib.hid hn
  have hge := Nat.le_of_eq hn
  have hle := Nat.le_of_eq hn.symm
  have hn40 : n ≤ 40 := by have := hg.1; omega
  have HS := Lib.hid h
  have HGD := Lib.hid hg
  have HT0 := Lib.hid (tsum_zero xs)
  clear hn h hg
  go_enter Try.func22, Try.ntmps22
  go_wp2_with fail
  refine (appendNum_any _ [] n w.heap.size _ (World.ownsRow_nil _ _ _ _) (Nat.le_refl _) (by omega) (by simp)).mono ?_
  rintro e w1 ⟨v1, rfl, hown1, hb1⟩
  have ho1 : w1.ownsRow w.heap.size 5 1 v1 (tsum xs 0).length (B8 (tsum xs 0)) := by rw [HT0.out, HN.out]; simpa using hown1
  clear hown1
  go_wp2_with fail
  go_loopw [4, 15] (fun v i wr => ∃ k : Nat, k ≤ n ∧ i = .int .i64 k ∧ wr.ownsRow w.heap.size 5 1 v (tsum xs k).length (B8 (tsum xs k)) ∧ Below w.heap.size w wr) (fun _ i _ => n - (intOf i).toNat)
  case atStart => exact ⟨0, by omega, rfl, ho1, hb1⟩
  case round =>
    clear ho1 hb1
    obtain ⟨k, hk, rfl, hown, hb⟩ := hrel
    have hbs0 := hb.size
    by_cases hlt : k < n
    · rcases HS.out with h | ⟨b, off, rfl, hbs, hc⟩
      · subst h; simp only [List.length_nil] at hle; omega
      · have hck := (hb.cell (p := ⟨b, off + k, none⟩) hbs).trans (hc k (by omega))
        have hsz := HGD.out.2 k (by omega)
        have HL := tsum_len xs k (by omega) (fun j hj _ => HGD.out.2 j hj)
        have HST := Lib.hid (tsum_step xs k (by omega))
        have HA := Lib.hid (fun W h1 h2 => appendText_any u4 (tsum xs k) xs[k] w.heap.size W h1 h2 (by omega) (by omega))
        clear hc
        go_wp2_with fail
        refine (HA.out _ hown (by omega)).mono ?_
        rintro e w2 ⟨v2, rfl, hown2, hb2⟩
        rw [← HST.out] at hown2
        go_wp2
        go_roundw
        case rel => exact ⟨k + 1, by omega, by go_num, hown2, hb.trans hb2⟩
        case measure => simp [intOf]; omega
    · have hkn : k = xs.length := by omega
      have HK := Lib.hid hkn
      have hcv := conv_back hown
      clear hkn
      go_wp2
      go_ret2
      exact ⟨by rw [HK.out]; rfl, hb⟩

set_option maxRecDepth 100000 in
set_option maxHeartbeats 1000000 in
theorem implTexts_bad (A : Option Addr) (n c : Nat) (xs : List ByteArray) (w : World) (hn : xs.length = n) (h : StrsAt w A xs) (hl : n ≤ 1048576) (hx : ∀ k (h : k < xs.length), xs[k].size ≤ 1048576) (hg : ¬ Good xs) :
    Calls Try.prog 22 #[.slice A n c] w fun e w' => e = .returned (.tuple #[.string ⟨#[]⟩, .bool false]) ∧ Below w.heap.size w w' := by
  have HN := Lib.hid hn
  have hge := Nat.le_of_eq hn
  have hle := Nat.le_of_eq hn.symm
  have HS := Lib.hid h
  have HGD := Lib.hid hg
  have HT0 := Lib.hid (tsum_zero xs)
  have HX := Lib.hid hx
  clear hn h hg hx
  by_cases hn40 : 40 < n
  · go_enter Try.func22, Try.ntmps22
    go_wp2
    go_ret2
    exact ⟨rfl, Below.refl _ _⟩
  · have hn41 : n ≤ 40 := by omega
    clear hn40
    go_enter Try.func22, Try.ntmps22
    go_wp2_with fail
    refine (appendNum_any _ [] n w.heap.size _ (World.ownsRow_nil _ _ _ _) (Nat.le_refl _) (by omega) (by simp)).mono ?_
    rintro e w1 ⟨v1, rfl, hown1, hb1⟩
    have ho1 : w1.ownsRow w.heap.size 5 1 v1 (tsum xs 0).length (B8 (tsum xs 0)) := by rw [HT0.out, HN.out]; simpa using hown1
    clear hown1
    go_wp2_with fail
    go_loopw [4, 15] (fun v i wr => ∃ k : Nat, k ≤ n ∧ i = .int .i64 k ∧ wr.ownsRow w.heap.size 5 1 v (tsum xs k).length (B8 (tsum xs k)) ∧ Below w.heap.size w wr ∧ Hid (∀ j (hj : j < xs.length), j < k → xs[j].size ≤ 60)) (fun _ i _ => n - (intOf i).toNat)
    case atStart => exact ⟨0, by omega, rfl, ho1, hb1, fun j _ hj => by omega⟩
    case round =>
      clear ho1 hb1
      obtain ⟨k, hk, rfl, hown, hb, HJ⟩ := hrel
      have hbs0 := hb.size
      by_cases hlt : k < n
      · rcases HS.out with h | ⟨b, off, rfl, hbs, hc⟩
        · subst h; simp only [List.length_nil] at hle; omega
        · have hck := (hb.cell (p := ⟨b, off + k, none⟩) hbs).trans (hc k (by omega))
          have hxk := HX.out k (by omega)
          clear hc
          by_cases hsz : xs[k].size ≤ 60
          · have HL := tsum_len xs k (by omega) HJ.out
            have HST := Lib.hid (tsum_step xs k (by omega))
            have HA := Lib.hid (fun W h1 h2 => appendText_any u4 (tsum xs k) xs[k] w.heap.size W h1 h2 (by omega) (by omega))
            go_wp2_with fail
            refine (HA.out _ hown (by omega)).mono ?_
            rintro e w2 ⟨v2, rfl, hown2, hb2⟩
            rw [← HST.out] at hown2
            go_wp2
            go_roundw
            case rel =>
              refine ⟨k + 1, by omega, by go_num, hown2, hb.trans hb2, fun j hj hjk => ?_⟩
              rcases Nat.lt_or_ge j k with h1 | h1
              · exact HJ.out j hj h1
              · have : j = k := by omega
                subst this; omega
            case measure => simp [intOf]; omega
          · have hsz2 : 60 < xs[k].size := by omega
            clear hsz
            go_wp2
            go_ret2
            exact ⟨rfl, hb⟩
      · exact absurd ⟨by omega, fun j hj => HJ.out j hj (by omega)⟩ HGD.out

/-- The model's TextsBytes: its first loop looks at each text's length. -/
theorem str_len {w : World} {A : Option Addr} {xs : List ByteArray} (h : StrsAt w A xs) (k : Nat) (hk : k < xs.length) : ∃ b off, A = some ⟨b, off, none⟩ ∧ b < w.heap.size ∧ w.cell? ⟨b, off + k, none⟩ = some (.string xs[k]) := by
  rcases h with h | ⟨b, off, hA, hb, hc⟩
  · subst h; simp at hk
  · exact ⟨b, off, hA, hb, hc k hk⟩

set_option maxRecDepth 100000 in
set_option maxHeartbeats 1000000 in
theorem l1TextsB_any (A : Option Addr) (n c : Nat) (xs : List ByteArray) (w : World) (hn : xs.length = n) (h : StrsAt w A xs) (hg : Good xs) :
    Calls Try.prog 58 #[.slice A n c] w fun e w' => e = .returned (.string ⟨(tsum xs xs.length).toArray⟩) ∧ Below w.heap.size w w' := by
  have HN := Lib.hid hn
  have hge := Nat.le_of_eq hn
  have hle := Nat.le_of_eq hn.symm
  have hn40 : n ≤ 40 := by have := hg.1; omega
  have HS := Lib.hid h
  have HGD := Lib.hid hg
  have HT0 := Lib.hid (tsum_zero xs)
  clear hn h hg
  go_enter Try.func58, Try.ntmps58
  go_wp2_with fail
  refine (l1NumB_any n _ (by omega)).mono ?_
  rintro e w1 ⟨rfl, hb1⟩
  go_wp2_with fail
  go_loopw [3, 11] (fun v i wr => ∃ k : Nat, k ≤ n ∧ i = .int .i64 k ∧ v = .string ⟨(tsum xs k).toArray⟩ ∧ Below w.heap.size w wr) (fun _ i _ => n - (intOf i).toNat)
  case atStart => exact ⟨0, by omega, rfl, by rw [HT0.out, HN.out], hb1⟩
  case round =>
    clear hb1
    obtain ⟨k, hk, rfl, rfl, hb⟩ := hrel
    by_cases hlt : k < n
    · obtain ⟨b, off, rfl, hbs, hc⟩ := str_len HS.out k (by omega)
      have hck := (hb.cell (p := ⟨b, off + k, none⟩) hbs).trans hc
      have hsz := HGD.out.2 k (by omega)
      have HL := tsum_len xs k (by omega) (fun j hj _ => HGD.out.2 j hj)
      have hnl := M.numB_len xs[k].data.toList.length
      have hadd := fun (W : World) => run_string_add_sum (P := Try.prog) (w := W) ⟨(tsum xs k).toArray⟩ ⟨(textB xs[k].data.toList).toArray⟩ (by
        rw [size_of_list, size_of_list]; unfold textB; rw [List.length_append]; have e : xs[k].data.toList.length = xs[k].size := by simp
        omega)
      have e0 : (⟨(tsum xs k).toArray⟩ : ByteArray) ++ ⟨(textB xs[k].data.toList).toArray⟩ = ⟨(tsum xs (k + 1)).toArray⟩ := by
        rw [tsum_step xs k (by omega)]
        apply ByteArray.ext
        apply Array.ext'
        simp
      simp only [e0] at hadd
      have HA := Lib.hid (fun W => l1TextB_any xs[k] W (by omega))
      clear hc e0 hnl
      go_wp2_with fail
      refine (HA.out _).mono ?_
      rintro e w2 ⟨rfl, hb2⟩
      go_wp2
      go_roundw
      case rel => exact ⟨k + 1, by omega, by go_num, rfl, hb.trans (hb2.mono hb.size)⟩
      case measure => simp [intOf]; omega
    · have hkn : k = xs.length := by omega
      have HK := Lib.hid hkn
      clear hkn
      go_wp2
      go_ret
      exact ⟨by rw [HK.out]; rfl, hb⟩

set_option maxRecDepth 100000 in
set_option maxHeartbeats 1000000 in
theorem specTexts_good (A : Option Addr) (n c : Nat) (xs : List ByteArray) (w : World) (hn : xs.length = n) (h : StrsAt w A xs) (hg : Good xs) :
    Calls Try.prog 23 #[.slice A n c] w fun e w' => e = .returned (.tuple #[.string ⟨(tsum xs xs.length).toArray⟩, .bool true]) ∧ Below w.heap.size w w' := by
  have HB := Lib.hid (l1TextsB_any A n c xs w hn h hg)
  have hge := Nat.le_of_eq hn
  have hle := Nat.le_of_eq hn.symm
  have hn40 : n ≤ 40 := by have := hg.1; omega
  have HS := Lib.hid h
  have HGD := Lib.hid hg
  clear hn h hg
  go_enter Try.func23, Try.ntmps23
  go_wp2
  go_loop [8] (fun i => ∃ k : Nat, k ≤ n ∧ i = .int .i64 k) (fun i => n - (intOf i).toNat)
  case atStart => exact ⟨0, by omega, rfl⟩
  case round =>
    obtain ⟨k, hk, rfl⟩ := hrel
    by_cases hlt : k < n
    · obtain ⟨b, off, rfl, hbs, hc⟩ := str_len HS.out k (by omega)
      have hsz := HGD.out.2 k (by omega)
      go_wp2
      go_round
      case rel => exact ⟨k + 1, by omega, by go_num⟩
      case measure => simp [intOf]; omega
    · go_wp2_with fail
      refine HB.out.mono ?_
      rintro e w2 ⟨rfl, hb2⟩
      go_wp2
      go_ret2
      exact ⟨rfl, hb2⟩

set_option maxRecDepth 100000 in
set_option maxHeartbeats 1000000 in
theorem specTexts_bad (A : Option Addr) (n c : Nat) (xs : List ByteArray) (w : World) (hn : xs.length = n) (h : StrsAt w A xs) (hl : n ≤ 1048576) (hx : ∀ k (h : k < xs.length), xs[k].size ≤ 1048576) (hg : ¬ Good xs) :
    Calls Try.prog 23 #[.slice A n c] w fun e w' => e = .returned (.tuple #[.string ⟨#[]⟩, .bool false]) ∧ w = w' := by
  have hge := Nat.le_of_eq hn
  have hle := Nat.le_of_eq hn.symm
  have HS := Lib.hid h
  have HGD := Lib.hid hg
  have HX := Lib.hid hx
  clear hn h hg hx
  go_enter Try.func23, Try.ntmps23
  go_wp2
  go_loop [8] (fun i => ∃ k : Nat, k ≤ n ∧ i = .int .i64 k ∧ Hid (∀ j (hj : j < xs.length), j < k → xs[j].size ≤ 60)) (fun i => n - (intOf i).toNat)
  case atStart => exact ⟨0, by omega, rfl, fun j _ hj => by omega⟩
  case round =>
    obtain ⟨k, hk, rfl, HJ⟩ := hrel
    by_cases hlt : k < n
    · obtain ⟨b, off, rfl, hbs, hc⟩ := str_len HS.out k (by omega)
      have hxk := HX.out k (by omega)
      by_cases hsz : xs[k].size ≤ 60
      · go_wp2
        go_round
        case rel =>
          refine ⟨k + 1, by omega, by go_num, fun j hj hjk => ?_⟩
          rcases Nat.lt_or_ge j k with h1 | h1
          · exact HJ.out j hj h1
          · have : j = k := by omega
            subst this; omega
        case measure => simp [intOf]; omega
      · have hsz2 : 60 < xs[k].size := by omega
        clear hsz
        go_wp2
        go_ret2
        exact ⟨rfl, rfl⟩
    · by_cases hn40 : 40 < n
      · go_wp2
        go_ret2
        exact ⟨rfl, rfl⟩
      · exact absurd ⟨by omega, fun j hj => HJ.out j hj (by omega)⟩ HGD.out
end Go.Proofs.Ytodfefaknclemaa
