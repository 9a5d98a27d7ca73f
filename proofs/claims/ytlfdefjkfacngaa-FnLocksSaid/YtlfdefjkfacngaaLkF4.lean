/-
  The model's rows of transactions: l1Put, l12Waits, WaitsFor.
-/
import Derived.Test.YtlfdefjkfacngaaLkF3
import Derived.Test.YtlfdefjkfacngaaLkW
import Derived.Test.YtlfdefjkfacngaaNtMem
namespace Go.Proofs.Ytlfdefjkfacngaa.Lk
open Go.RowKit CM Nt
set_option linter.unusedVariables false
set_option linter.unusedSimpArgs false

theorem i_rowL {w : World} {lo hi c n : Nat} {A : Option Addr} {ls : List Int} (h : OwnI w lo hi A c ls) (hn : ls.length = n) : w.ownsRow lo 3 1 (.slice A n c) n ((ls.map intCs).flatten) := by
  have h7 := Own.toRow h (intCs_len ls) (by decide)
  rw [List.length_map, hn] at h7
  exact h7
theorem i_app {w' : World} {lo n m : Nat} {L M : List Int} {v' : Value} (hn : L.length = n) (hm : M.length = m) (hown : w'.ownsRow lo 3 1 v' (n + m) ((L.map intCs).flatten ++ (M.map intCs).flatten)) : ∃ A5 c5, v' = .slice A5 (n + m) c5 ∧ OwnI w' lo w'.heap.size A5 c5 (L ++ M) := by
  rw [← List.flatten_append, ← List.map_append] at hown
  obtain ⟨A5, c5, hv, hl, ho⟩ := Own.ofRow hown (intCs_len _) (by decide) (hi := w'.heap.size) (fun k hk => (hown.lt k hk).2)
  rw [List.length_map, List.length_append, hn, hm] at hv
  exact ⟨A5, c5, hv, ho⟩
theorem i_first {w' : World} {lo m : Nat} {M : List Int} {v' : Value} (hm : M.length = m) (hown : w'.ownsRow lo 3 1 v' (0 + m) ([] ++ (M.map intCs).flatten)) : ∃ A5 c5, v' = .slice A5 m c5 ∧ OwnI w' lo w'.heap.size A5 c5 M := by
  rw [Nat.zero_add, List.nil_append] at hown
  obtain ⟨A5, c5, hv, hl, ho⟩ := Own.ofRow hown (intCs_len _) (by decide) (hi := w'.heap.size) (fun k hk => (hown.lt k hk).2)
  rw [List.length_map, hm] at hv
  exact ⟨A5, c5, hv, ho⟩
theorem i_one {w' : World} {lo n : Nat} {L : List Int} {x : Int} {v' : Value} (hn : L.length = n) (hown : w'.ownsRow lo 3 1 v' (n + 1) ((L.map intCs).flatten ++ [.int .i64 x])) : ∃ A5 c5, v' = .slice A5 (n + 1) c5 ∧ OwnI w' lo w'.heap.size A5 c5 (L ++ [x]) :=
  i_app (M := [x]) hn rfl hown
theorem below_grow {w wr w1 : World} {lo n c cap : Nat} {A : Option Addr} {L : List Int} (hb : Below w.heap.size w wr) (h : OwnI wr w.heap.size wr.heap.size A cap L) (hg : wr.grownBy w1 (Value.slice A n c).ownBlock) : Below w.heap.size w w1 :=
  hb.grown hg hb.size (fun k hk => by
    cases A with
    | none => simp [Value.ownBlock] at hk
    | some p => simp [Value.ownBlock] at hk; have := (Own.block h p rfl).1; omega)
theorem i_news {w : World} {B m : Nat} {A : Option Addr} {M : List Int} (h : IntsB w B A M) (hm : M.length = m) : 0 < m → ∃ ad, A = some ad ∧ ∀ j u, ((M.map intCs).flatten)[j]? = some u → w.cell? (ad.add j) = some u := by
  intro h0
  obtain ⟨b, off, rfl, hb, hc⟩ := h.get (by omega)
  refine ⟨_, rfl, fun j u hu => ?_⟩
  have hj : j < M.length := by
    have := List.getElem?_eq_some_iff.1 hu
    obtain ⟨hlt, _⟩ := this
    rw [flat_len (intCs_len M), List.length_map] at hlt
    omega
  have e := flat_at (intCs_len M) j (by simpa using hj) 0 (by omega)
  rw [Nat.mul_one, Nat.add_zero] at e
  rw [e] at hu
  simp [intCs] at hu
  rw [← hu]
  by_cases hj0 : j = 0
  · subst hj0; simpa [Addr.add] using hc 0 hj
  · simpa [Addr.add, hj0] using hc j hj
theorem ints_head {w : World} {B : Nat} {A : Option Addr} {is : List Int} (h : IntsB w B A is) (k : Nat) : IntsB w B A (is.take k) := by
  rcases h with h | ⟨b, off, hA, hlt, hc⟩
  · rw [List.map_eq_nil_iff] at h; subst h; exact .inl (by simp)
  · refine .inr ⟨b, off, hA, hlt, fun j hj i hi => ?_⟩
    have hj' : j < (is.map intCs).length := by simp at hj ⊢; omega
    rw [hc j hj' i hi]
    simp
theorem ints_part {w : World} {B b off : Nat} {is : List Int} (h : IntsB w B (some ⟨b, off, none⟩) is) (k : Nat) (hk : k ≤ is.length) : IntsB w B (some ⟨b, off + k, none⟩) (is.drop k) := by
  rcases h with h | ⟨b', off', hA, hlt, hc⟩
  · rw [List.map_eq_nil_iff] at h; subst h; exact .inl (by simp)
  · injection hA with hA
    injection hA with e1 e2
    subst e1 e2
    refine .inr ⟨_, _, rfl, hlt, fun j hj i hi => ?_⟩
    have hj' : k + j < (is.map intCs).length := by simp at hj ⊢; omega
    have h0 := hc (k + j) hj' i hi
    rw [show off + k + j * 1 + i = off + (k + j) * 1 + i by omega, h0]
    simp
theorem one_cellI (M : List Int) : ∀ u ∈ (M.map intCs).flatten, u.oneCell' = true := intCs_one M
theorem i_nil (w : World) (lo hi : Nat) : OwnI w lo hi none 0 [] := .inl ⟨rfl, rfl, rfl⟩
theorem own_growI {w w' : World} {lo cap : Nat} {A : Option Addr} {ls : List Int} (h : OwnI w lo w.heap.size A cap ls) (hb : Below w.heap.size w w') : OwnI w' lo w'.heap.size A cap ls :=
  OwnI.wider (h.since hb (Nat.le_refl _)) (Nat.le_refl _) hb.size
theorem own_capI {w : World} {lo hi cap : Nat} {A : Option Addr} {ls : List Int} (h : OwnI w lo hi A cap ls) : ls.length ≤ cap ∧ (A = none ∧ cap = 0 ∨ ∃ b off, A = some ⟨b, off, none⟩) := by
  rcases h with ⟨h1, h2, h3⟩ | ⟨g, cur, hA, h1, h2, h3, h4, h5, h6, h7⟩
  · rw [List.map_eq_nil_iff] at h1; subst h1; exact ⟨Nat.zero_le _, .inl ⟨h2, h3⟩⟩
  · rw [List.length_map] at h4; exact ⟨h4, .inr ⟨g, 0, hA⟩⟩
theorem i_empty (w : World) : OwnI (w.alloc (.cells #[] 3)) w.heap.size (w.alloc (.cells #[] 3)).heap.size (some ⟨w.heap.size, 0, none⟩) 0 [] :=
  .inr ⟨w.heap.size, #[], rfl, Nat.le_refl _, by simp, heap_alloc_new w _, by simp, by simp, by simp, by simp⟩
/-- A row with a number put in at its place: the row itself, or a new one. -/
def PutPostI (A : Option Addr) (c : Nat) (is : List Int) (x : Int) (w : World) (e : Ending) (w' : World) : Prop :=
  ∃ A' c', e = .returned (.slice A' (insI x is).length c') ∧ ((A' = A ∧ c' = c ∧ insI x is = is) ∨ OwnI w' w.heap.size w'.heap.size A' c' (insI x is)) ∧ Below w.heap.size w w'

set_option maxRecDepth 100000 in
set_option maxHeartbeats 8000000 in
theorem l1Put_any (x : Int) (A : Option Addr) (n c : Nat) (is : List Int) (B : Nat) (w : World) (hn : is.length = n) (hcp : n ≤ c) (hA : A = none ∧ c = 0 ∨ ∃ b off, A = some ⟨b, off, none⟩) (h : IntsB w B A is) (hB : B ≤ w.heap.size) (hl : n ≤ 1048576) :
    Calls Try.prog 106 #[.slice A n c, .int .i64 x] w (PutPostI A c is x w) := by
  obtain ⟨i0, hi0, hz0, hz1, hz2⟩ := info_parts infoInt
  have hge := Nat.le_of_eq hn
  have hle := Nat.le_of_eq hn.symm
  have HN := Lib.hid hn
  have HS := Lib.hid h
  clear hn h
  go_enter Try.func106, Try.ntmps106
  go_wp2
  go_loopw [5] (fun i wr => ∃ k : Nat, k ≤ n ∧ i = .int .i64 k ∧ Hid (∀ j (h : j < is.length), j < k → is[j] < x) ∧ Hid (Below w.heap.size w wr)) (fun i _ => n - (intOf i).toNat)
  case atStart => exact ⟨0, by omega, rfl, Lib.hid (fun j _ h => absurd h (by omega)), Lib.hid (Below.refl _ _)⟩
  case round =>
    obtain ⟨k, hk, rfl, HP, HB⟩ := hrel
    have hk0 : (0 : Int) ≤ (k : Int) := by omega
    have hkni : (k : Int) ≤ (n : Int) := by omega
    have hnci : (n : Int) ≤ (c : Int) := by omega
    have hkci : (k : Int) ≤ (c : Int) := by omega
    have HPL := Lib.hid (fun hh => ins_place (x := x) (l := is) (k := k) (by omega) (fun j hj => HP.out j (by omega) hj) hh)
    by_cases hlt : k < n
    · obtain ⟨b, off, rfl, hbB, hc⟩ := HS.out.get (by omega)
      have c0 := (HB.out.cell (p := ⟨b, off + k, none⟩) (Nat.lt_of_lt_of_le hbB hB)).trans (hc k (by omega))
      have hltI : (k : Int) < (n : Int) := by omega
      have HSU := Lib.hid (show is[k]'(by omega) < x → ∀ j (h : j < is.length), j < k + 1 → is[j] < x from fun h j hj hjk => by
        rcases Nat.lt_or_ge j k with h1 | h1
        · exact HP.out j hj h1
        · have : j = k := by omega
          subst this; exact h)
      have HHR := Lib.hid (fun (h : is[k]'(by omega) = x) => ins_here (x := x) (l := is) (k := k) (by omega) (fun j hj => HP.out j (by omega) hj) h)
      have HPL2 := Lib.hid (fun (h : x < is[k]'(by omega)) => HPL.out fun _ => h)
      obtain ⟨y, hy⟩ : ∃ y, y = is[k]'(by omega) := ⟨_, rfl⟩
      rw [← hy] at c0 HSU HHR HPL2
      clear hc hy HPL
      by_cases h1 : y < x
      · have HG := Lib.hid (HSU.out h1)
        go_wp2
        go_roundw
        case rel => exact ⟨k + 1, by omega, by go_num, HG, HB⟩
        case measure => simp [intOf]; omega
      · by_cases h2 : y = x
        · subst h2
          have HE := Lib.hid (HHR.out rfl)
          have HF := Lib.hid (show PutPostI (some ⟨b, off, none⟩) c is y w (.returned (.slice (some ⟨b, off, none⟩) n c)) wr from ⟨_, c, by rw [HE.out, HN.out], .inl ⟨rfl, rfl, HE.out⟩, HB.out⟩)
          go_wp2
          go_ret
          exact HF.out
        · have h2q : (y == x) = false := by simp [h2]
          have h2d : decide (y = x) = false := by simp [h2]
          have HE := Lib.hid (HPL2.out (by omega))
          have HHD := Lib.hid (ints_head HS.out k)
          have HTL := Lib.hid (ints_part HS.out k (by omega))
          have HR0 := Lib.hid (show (wr.alloc (.cells #[] 3)).ownsRow w.heap.size 3 1 (.slice (some ⟨wr.heap.size, 0, none⟩) 0 0) 0 [] from own_empty wr w.heap.size 3 1 HB.out.size)
          have HB1 := Lib.hid (HB.out.trans ((below1 wr (.cells #[] 3)).mono HB.out.size))
          have HHW := Lib.hid (HHD.out.below (HB1.out.mono hB))
          have hws := HB.out.size
          have HO0 := Lib.hid (show OwnI (wr.alloc (.cells #[] 3)) w.heap.size (wr.alloc (.cells #[] 3)).heap.size (some ⟨wr.heap.size, 0, none⟩) 0 [] from OwnI.wider (i_empty wr) HB.out.size (Nat.le_refl _))
          have HFIN := Lib.hid (fun (W : World) (A9 : Option Addr) (c9 : Nat) (ho : OwnI W w.heap.size W.heap.size A9 c9 ((is.take k ++ [x]) ++ is.drop k)) (hb : Below w.heap.size w W) => show PutPostI (some ⟨b, off, none⟩) c is x w (.returned (.slice A9 (k + 1 + (n - k)) c9)) W from ⟨A9, c9, by rw [HE.out, List.length_append, List.length_cons, List.length_take, List.length_drop, HN.out, Nat.min_eq_left (by omega)]; try (congr 2 <;> omega), .inr (by rw [HE.out]; rw [List.append_assoc] at ho; exact ho), hb⟩)
          go_wp2_with (at_builtin; first
            | (refine wpList_app rfl (.tmp 34) (.tmp 37) 25 rfl w.heap.size 3 i0 _ 1 8 Try.underlying25 hi0 hz0 hz1 hz2 rfl (by decide) (.slice (some ⟨wr.heap.size, 0, none⟩) 0 0) 0 [] rfl HR0.out (some ⟨b, off, none⟩) k c (((is.take k).map intCs).flatten) rfl (by rw [flat_len (intCs_len _), List.length_map]; simp <;> omega) (i_news HHW.out (by simp <;> omega)) (one_cellI _) (by unfold maxLen; omega) (by omega) (by simp; omega) ?_; intro v6 w6 hown6 hg6 _; have HB6 := Lib.hid (below_grow (n := 0) (c := 0) (lo := 0) HB1.out HO0.out hg6); obtain ⟨A6, c6, rfl, ho6⟩ := i_first (by simp <;> omega) hown6; have HOA := Lib.hid (own_growI ho6 (below1 w6 (.cells #[.int .i64 x] 3))); have HBA := Lib.hid (HB6.out.trans ((below1 w6 (.cells #[.int .i64 x] 3)).mono HB6.out.size)); have HRA := Lib.hid (i_rowL (n := k) HOA.out (by simp <;> omega)); have HNA := Lib.hid (heap_alloc_new w6 (.cells #[.int .i64 x] 3)); have hsA : w.heap.size ≤ (w6.alloc (.cells #[.int .i64 x] 3)).heap.size := HBA.out.size; clear hown6 hg6 ho6)
            | (refine wpList_app rfl (.tmp 39) (.tmp 41) 25 rfl w.heap.size 3 i0 _ 1 8 Try.underlying25 hi0 hz0 hz1 hz2 rfl (by decide) (.slice A6 k c6) k (((is.take k).map intCs).flatten) rfl HRA.out (some ⟨w6.heap.size, 0, none⟩) 1 1 [.int .i64 x] rfl rfl (fun _ => ⟨_, rfl, World.news_of_block (cs := #[.int .i64 x]) (t := 3) (fr := (0, 0)) HNA.out⟩) (by simp [Value.oneCell']) (by unfold maxLen; omega) (by omega) hsA ?_; intro v7 w7 hown7 hg7 _; have HB7 := Lib.hid (below_grow (n := k) (c := c6) (lo := 0) HBA.out HOA.out hg7); obtain ⟨A7, c7, rfl, ho7⟩ := i_one (by simp <;> omega) hown7; have HO7 := Lib.hid ho7; have HR7 := Lib.hid (i_rowL (n := k + 1) ho7 (by simp <;> omega)); have HTW := Lib.hid (HTL.out.below (HB7.out.mono hB)); have hs7 := HB7.out.size; clear hown7 hg7 ho7)
            | (refine wpList_app rfl (.tmp 43) (.tmp 46) 25 rfl w.heap.size 3 i0 _ 1 8 Try.underlying25 hi0 hz0 hz1 hz2 rfl (by decide) (.slice A7 (k + 1) c7) (k + 1) (((is.take k ++ [x]).map intCs).flatten) rfl HR7.out (some ⟨b, off + k, none⟩) (n - k) (c - k) (((is.drop k).map intCs).flatten) rfl (by rw [flat_len (intCs_len _), List.length_map]; simp <;> omega) (i_news HTW.out (by simp <;> omega)) (one_cellI _) (by unfold maxLen; omega) (by omega) hs7 ?_; intro v8 w8 hown8 hg8 _; have HB8 := Lib.hid (below_grow (n := k + 1) (c := c7) (lo := 0) HB7.out HO7.out hg8); obtain ⟨A8, c8, rfl, ho8⟩ := i_app (m := (n - k)) (by simp <;> omega) (by simp <;> omega) hown8; have HF := Lib.hid (HFIN.out w8 A8 c8 ho8 HB8.out); clear hown8 hg8 ho8))
          go_ret
          exact HF.out
    · have hkn : k = n := by omega
      subst hkn
      have HE := Lib.hid (HPL.out fun h => absurd h (by omega))
      have HHD := Lib.hid (ints_head HS.out k)
      rcases hA with ⟨rfl, rfl⟩ | ⟨b, off, rfl⟩
      · have hk00 : k = 0 := by omega
        subst hk00
        obtain rfl : is = [] := List.eq_nil_of_length_eq_zero (by omega)
        have HTL := Lib.hid (show IntsB w B none (([] : List Int).drop 0) by rw [List.drop_eq_nil_of_le (by omega)]; exact .inl rfl)
        have HR0 := Lib.hid (show (wr.alloc (.cells #[] 3)).ownsRow w.heap.size 3 1 (.slice (some ⟨wr.heap.size, 0, none⟩) 0 0) 0 [] from own_empty wr w.heap.size 3 1 HB.out.size)
        have HB1 := Lib.hid (HB.out.trans ((below1 wr (.cells #[] 3)).mono HB.out.size))
        have HHW := Lib.hid (HHD.out.below (HB1.out.mono hB))
        have hws := HB.out.size
        have HO0 := Lib.hid (show OwnI (wr.alloc (.cells #[] 3)) w.heap.size (wr.alloc (.cells #[] 3)).heap.size (some ⟨wr.heap.size, 0, none⟩) 0 [] from OwnI.wider (i_empty wr) HB.out.size (Nat.le_refl _))
        have HFIN := Lib.hid (fun (W : World) (A9 : Option Addr) (c9 : Nat) (ho : OwnI W w.heap.size W.heap.size A9 c9 ((([] : List Int).take 0 ++ [x]) ++ ([] : List Int).drop 0)) (hb : Below w.heap.size w W) => show PutPostI none 0 ([] : List Int) x w (.returned (.slice A9 (0 + 1 + 0) c9)) W from ⟨A9, c9, by rw [HE.out, List.length_append, List.length_cons, List.length_take, List.length_drop, HN.out, Nat.min_eq_left (by omega)]; try (congr 2 <;> omega), .inr (by rw [HE.out]; rw [List.append_assoc] at ho; exact ho), hb⟩)
        go_wp2_with (at_builtin; first
          | (refine wpList_app rfl (.tmp 34) (.tmp 37) 25 rfl w.heap.size 3 i0 _ 1 8 Try.underlying25 hi0 hz0 hz1 hz2 rfl (by decide) (.slice (some ⟨wr.heap.size, 0, none⟩) 0 0) 0 [] rfl HR0.out none 0 0 (((([] : List Int).take 0).map intCs).flatten) rfl (by rw [flat_len (intCs_len _), List.length_map]; simp <;> omega) (i_news HHW.out (by simp <;> omega)) (one_cellI _) (by unfold maxLen; omega) (by omega) (by simp; omega) ?_; intro v6 w6 hown6 hg6 _; have HB6 := Lib.hid (below_grow (n := 0) (c := 0) (lo := 0) HB1.out HO0.out hg6); obtain ⟨A6, c6, rfl, ho6⟩ := i_first (by simp <;> omega) hown6; have HOA := Lib.hid (own_growI ho6 (below1 w6 (.cells #[.int .i64 x] 3))); have HBA := Lib.hid (HB6.out.trans ((below1 w6 (.cells #[.int .i64 x] 3)).mono HB6.out.size)); have HRA := Lib.hid (i_rowL (n := 0) HOA.out (by simp <;> omega)); have HNA := Lib.hid (heap_alloc_new w6 (.cells #[.int .i64 x] 3)); have hsA : w.heap.size ≤ (w6.alloc (.cells #[.int .i64 x] 3)).heap.size := HBA.out.size; clear hown6 hg6 ho6)
          | (refine wpList_app rfl (.tmp 39) (.tmp 41) 25 rfl w.heap.size 3 i0 _ 1 8 Try.underlying25 hi0 hz0 hz1 hz2 rfl (by decide) (.slice A6 0 c6) 0 (((([] : List Int).take 0).map intCs).flatten) rfl HRA.out (some ⟨w6.heap.size, 0, none⟩) 1 1 [.int .i64 x] rfl rfl (fun _ => ⟨_, rfl, World.news_of_block (cs := #[.int .i64 x]) (t := 3) (fr := (0, 0)) HNA.out⟩) (by simp [Value.oneCell']) (by unfold maxLen; omega) (by omega) hsA ?_; intro v7 w7 hown7 hg7 _; have HB7 := Lib.hid (below_grow (n := 0) (c := c6) (lo := 0) HBA.out HOA.out hg7); obtain ⟨A7, c7, rfl, ho7⟩ := i_one (by simp <;> omega) hown7; have HO7 := Lib.hid ho7; have HR7 := Lib.hid (i_rowL (n := 0 + 1) ho7 (by simp <;> omega)); have HTW := Lib.hid (HTL.out.below (HB7.out.mono hB)); have hs7 := HB7.out.size; clear hown7 hg7 ho7)
          | (refine wpList_app rfl (.tmp 43) (.tmp 46) 25 rfl w.heap.size 3 i0 _ 1 8 Try.underlying25 hi0 hz0 hz1 hz2 rfl (by decide) (.slice A7 (0 + 1) c7) (0 + 1) (((([] : List Int).take 0 ++ [x]).map intCs).flatten) rfl HR7.out none 0 0 (((([] : List Int).drop 0).map intCs).flatten) rfl (by rw [flat_len (intCs_len _), List.length_map]; simp <;> omega) (i_news HTW.out (by simp <;> omega)) (one_cellI _) (by unfold maxLen; omega) (by omega) hs7 ?_; intro v8 w8 hown8 hg8 _; have HB8 := Lib.hid (below_grow (n := 0 + 1) (c := c7) (lo := 0) HB7.out HO7.out hg8); obtain ⟨A8, c8, rfl, ho8⟩ := i_app (m := 0) (by simp <;> omega) (by simp <;> omega) hown8; have HF := Lib.hid (HFIN.out w8 A8 c8 ho8 HB8.out); clear hown8 hg8 ho8))
        go_ret
        exact HF.out
      · obtain ⟨AD, hAD⟩ : ∃ AD : Option Addr, AD = (if c = k then some ⟨b, off, none⟩ else some ⟨b, off + k, none⟩) := ⟨_, rfl⟩
        have HTL := Lib.hid (show IntsB w B AD (is.drop k) by
          rw [hAD]
          by_cases hck : c = k
          · rw [List.drop_eq_nil_of_le (by omega)]; exact .inl rfl
          · rw [if_neg hck]; exact ints_part HS.out k (by omega))
        have hADs := hAD.symm
        clear hAD
        have HR0 := Lib.hid (show (wr.alloc (.cells #[] 3)).ownsRow w.heap.size 3 1 (.slice (some ⟨wr.heap.size, 0, none⟩) 0 0) 0 [] from own_empty wr w.heap.size 3 1 HB.out.size)
        have HB1 := Lib.hid (HB.out.trans ((below1 wr (.cells #[] 3)).mono HB.out.size))
        have HHW := Lib.hid (HHD.out.below (HB1.out.mono hB))
        have hws := HB.out.size
        have HO0 := Lib.hid (show OwnI (wr.alloc (.cells #[] 3)) w.heap.size (wr.alloc (.cells #[] 3)).heap.size (some ⟨wr.heap.size, 0, none⟩) 0 [] from OwnI.wider (i_empty wr) HB.out.size (Nat.le_refl _))
        have HFIN := Lib.hid (fun (W : World) (A9 : Option Addr) (c9 : Nat) (ho : OwnI W w.heap.size W.heap.size A9 c9 ((is.take k ++ [x]) ++ is.drop k)) (hb : Below w.heap.size w W) => show PutPostI (some ⟨b, off, none⟩) c is x w (.returned (.slice A9 (k + 1 + (0)) c9)) W from ⟨A9, c9, by rw [HE.out, List.length_append, List.length_cons, List.length_take, List.length_drop, HN.out, Nat.min_eq_left (by omega)]; try (congr 2 <;> omega), .inr (by rw [HE.out]; rw [List.append_assoc] at ho; exact ho), hb⟩)
        go_wp2_with (at_builtin; first
          | (refine wpList_app rfl (.tmp 34) (.tmp 37) 25 rfl w.heap.size 3 i0 _ 1 8 Try.underlying25 hi0 hz0 hz1 hz2 rfl (by decide) (.slice (some ⟨wr.heap.size, 0, none⟩) 0 0) 0 [] rfl HR0.out (some ⟨b, off, none⟩) k c (((is.take k).map intCs).flatten) rfl (by rw [flat_len (intCs_len _), List.length_map]; simp <;> omega) (i_news HHW.out (by simp <;> omega)) (one_cellI _) (by unfold maxLen; omega) (by omega) (by simp; omega) ?_; intro v6 w6 hown6 hg6 _; have HB6 := Lib.hid (below_grow (n := 0) (c := 0) (lo := 0) HB1.out HO0.out hg6); obtain ⟨A6, c6, rfl, ho6⟩ := i_first (by simp <;> omega) hown6; have HOA := Lib.hid (own_growI ho6 (below1 w6 (.cells #[.int .i64 x] 3))); have HBA := Lib.hid (HB6.out.trans ((below1 w6 (.cells #[.int .i64 x] 3)).mono HB6.out.size)); have HRA := Lib.hid (i_rowL (n := k) HOA.out (by simp <;> omega)); have HNA := Lib.hid (heap_alloc_new w6 (.cells #[.int .i64 x] 3)); have hsA : w.heap.size ≤ (w6.alloc (.cells #[.int .i64 x] 3)).heap.size := HBA.out.size; clear hown6 hg6 ho6)
          | (refine wpList_app rfl (.tmp 39) (.tmp 41) 25 rfl w.heap.size 3 i0 _ 1 8 Try.underlying25 hi0 hz0 hz1 hz2 rfl (by decide) (.slice A6 k c6) k (((is.take k).map intCs).flatten) rfl HRA.out (some ⟨w6.heap.size, 0, none⟩) 1 1 [.int .i64 x] rfl rfl (fun _ => ⟨_, rfl, World.news_of_block (cs := #[.int .i64 x]) (t := 3) (fr := (0, 0)) HNA.out⟩) (by simp [Value.oneCell']) (by unfold maxLen; omega) (by omega) hsA ?_; intro v7 w7 hown7 hg7 _; have HB7 := Lib.hid (below_grow (n := k) (c := c6) (lo := 0) HBA.out HOA.out hg7); obtain ⟨A7, c7, rfl, ho7⟩ := i_one (by simp <;> omega) hown7; have HO7 := Lib.hid ho7; have HR7 := Lib.hid (i_rowL (n := k + 1) ho7 (by simp <;> omega)); have HTW := Lib.hid (HTL.out.below (HB7.out.mono hB)); have hs7 := HB7.out.size; clear hown7 hg7 ho7)
          | (refine wpList_app rfl (.tmp 43) (.tmp 46) 25 rfl w.heap.size 3 i0 _ 1 8 Try.underlying25 hi0 hz0 hz1 hz2 rfl (by decide) (.slice A7 (k + 1) c7) (k + 1) (((is.take k ++ [x]).map intCs).flatten) rfl HR7.out AD (0) (c - k) (((is.drop k).map intCs).flatten) rfl (by rw [flat_len (intCs_len _), List.length_map]; simp <;> omega) (i_news HTW.out (by simp <;> omega)) (one_cellI _) (by unfold maxLen; omega) (by omega) hs7 ?_; intro v8 w8 hown8 hg8 _; have HB8 := Lib.hid (below_grow (n := k + 1) (c := c7) (lo := 0) HB7.out HO7.out hg8); obtain ⟨A8, c8, rfl, ho8⟩ := i_app (m := (0)) (by simp <;> omega) (by simp <;> omega) hown8; have HF := Lib.hid (HFIN.out w8 A8 c8 ho8 HB8.out); clear hown8 hg8 ho8))
        go_ret
        exact HF.out

/-- Numbers as an answer, in a block of the call's own. -/
def IRPost (a : List Int) (w : World) (e : Ending) (w' : World) : Prop :=
  ∃ A c, e = .returned (.slice A a.length c) ∧ OwnI w' w.heap.size w'.heap.size A c a ∧ Below w.heap.size w w'
/-- Numbers and a bool as an answer. -/
def IAPost (a : List Int × Bool) (w : World) (e : Ending) (w' : World) : Prop :=
  ∃ A c, e = .returned (.tuple #[.slice A a.1.length c, .bool a.2]) ∧ OwnI w' w.heap.size w'.heap.size A c a.1 ∧ Below w.heap.size w w'
theorem IAPost_un (al : List Int) (ok : Bool) (w : World) : IAPost (al, ok) w = fun e w' => ∃ A c, e = .returned (.tuple #[.slice A al.length c, .bool ok]) ∧ OwnI w' w.heap.size w'.heap.size A c al ∧ Below w.heap.size w w' := rfl
theorem fold_len (zs : List Int) : (foldI zs).length ≤ zs.length := by
  have : ∀ (zs acc : List Int), (zs.foldl (fun acc z => insI z acc) acc).length ≤ zs.length + acc.length := by
    intro zs
    induction zs with
    | nil => intro acc; simp
    | cons z zs ih => intro acc; have h1 := ih (insI z acc); have h2 := ins_len z acc; simp only [List.foldl_cons, List.length_cons]; omega
  simpa [foldI] using this zs []
set_option maxRecDepth 100000 in
set_option maxHeartbeats 4000000 in
theorem l12Waits_any (s0 : ByteArray) (t0 : Int) (g0 : Bool) (A : Option Addr) (n c : Nat) (ls : List LK) (B : Nat) (w : World) (hn : ls.length = n) (hcp : n ≤ c) (h : LksB w B A ls) (hB : B ≤ w.heap.size) (hm : KSmall ls) :
    Calls Try.prog 75 #[.slice A n c, .agg #[.string s0, .int .i64 t0, .bool g0]] w (IRPost (foldI (txnsL ls (s0, t0, g0))) w) := by
  have HB0 := Lib.hid (below1 w (.cells #[.string s0, .int .i64 t0, .bool g0] 27))
  have hk0 := heap_alloc_new w (.cells #[.string s0, .int .i64 t0, .bool g0] 27)
  have HK0 := Lib.hid hk0
  have hge := Nat.le_of_eq hn
  have hle := Nat.le_of_eq hn.symm
  have HS := Lib.hid h
  have hm1 := hm.1
  rw [hn] at hm1
  clear hn h hm hk0
  go_enter Try.func75, Try.ntmps75
  go_wp2
  go_loopw [5, 10] (fun v i wr => ∃ (k m : Nat) (A1 : Option Addr) (ca : Nat) (L : List Int), k ≤ n ∧ i = .int .i64 k ∧ v = .slice A1 m ca ∧ Hid (L = foldI (txnsL (ls.take k) (s0, t0, g0))) ∧ Hid (L.length = m) ∧ m ≤ k ∧ Hid (OwnI wr w.heap.size wr.heap.size A1 ca L) ∧ Hid (Below w.heap.size w wr) ∧ Hid (wr.heap[w.heap.size]? = some (.cells #[.string s0, .int .i64 t0, .bool g0] 27 (0, 0)))) (fun _ i _ => n - (intOf i).toNat)
  case atStart => exact ⟨0, 0, none, 0, [], by omega, rfl, rfl, Lib.hid rfl, Lib.hid rfl, by omega, Lib.hid (i_nil _ _ _), HB0, HK0⟩
  case round =>
    clear HB0 HK0
    obtain ⟨k, m, A1, ca, L, hk, rfl, rfl, HLK, HLM, hmk, HO, HB, HK⟩ := hrel
    have x0 := cell_blk (i := 0) HK.out rfl
    have x1 := cell_blk (i := 1) HK.out rfl
    have x2 := cell_blk (i := 2) HK.out rfl
    have hlx := lt_blk HK.out
    by_cases hlt : k < n
    · obtain ⟨b, off, rfl, hbB, hc⟩ := HS.out.get (by omega)
      obtain ⟨hc0, hc1, hc2⟩ := hc k (by omega)
      have c0 := (HB.out.cell (p := ⟨b, off + k * 3, none⟩) (Nat.lt_of_lt_of_le hbB hB)).trans hc0
      have c1 := (HB.out.cell (p := ⟨b, off + k * 3 + 1, none⟩) (Nat.lt_of_lt_of_le hbB hB)).trans hc1
      have c2 := (HB.out.cell (p := ⟨b, off + k * 3 + 2, none⟩) (Nat.lt_of_lt_of_le hbB hB)).trans hc2
      have hk0 : (0 : Int) ≤ (k : Int) := by omega
      have HYES := Lib.hid (txns_yes (x := (s0, t0, g0)) (l := ls) (k := k) (by omega))
      have HNO := Lib.hid (txns_no (x := (s0, t0, g0)) (l := ls) (k := k) (by omega))
      have HLEN := Lib.hid (show (foldI (txnsL (ls.take (k + 1)) (s0, t0, g0))).length ≤ k + 1 from Nat.le_trans (fold_len _) (Nat.le_trans (txns_len _ _) (by simp; omega)))
      obtain ⟨y, hy⟩ : ∃ y, y = ls[k]'(by omega) := ⟨_, rfl⟩
      rw [← hy] at c0 c1 c2 HYES HNO
      obtain ⟨s, t, g⟩ := y
      simp only at c0 c1 c2
      have HBX := Lib.hid (HB.out.trans ((below1 wr (.cells #[.string s, .int .i64 t, .bool g] 27)).mono HB.out.size))
      have HOX := Lib.hid (own_growI HO.out (below1 wr (.cells #[.string s, .int .i64 t, .bool g] 27)))
      have HKX := Lib.hid (((below1 wr (.cells #[.string s, .int .i64 t, .bool g] 27)).block w.heap.size hlx).trans HK.out)
      have hk1 := heap_alloc_new wr (.cells #[.string s, .int .i64 t, .bool g] 27)
      have HC := Lib.hid (fun W => l12Clash_any s0 t0 g0 s t g W)
      clear hc hc0 hc1 hc2 hy
      obtain ⟨wx, hwx⟩ : ∃ wx, wx = wr.alloc (.cells #[.string s, .int .i64 t, .bool g] 27) := ⟨_, rfl⟩
      obtain ⟨r1, hr1⟩ : ∃ r, r = clashB (s0, t0, g0) (s, t, g) := ⟨_, rfl⟩
      rw [← hr1] at HYES HNO HC
      clear hr1
      have hkx := hk1
      rw [← hwx] at HBX HOX HKX hkx
      go_wp2_with fail
      rw [← hwx]
      refine (HC.out _).mono ?_
      rintro e w4 ⟨rfl, hb4⟩
      have z1 := cell_blk (i := 1) ((hb4.block _ (lt_blk hkx)).trans hkx) rfl
      have HB4 := Lib.hid (HBX.out.trans (hb4.mono HBX.out.size))
      have HO4 := Lib.hid (own_growI HOX.out hb4)
      have HK4 := Lib.hid ((hb4.block w.heap.size (lt_blk HKX.out)).trans HKX.out)
      clear hb4 c0 c1 c2 x0 x1 x2 hk1 hkx hlx
      cases r1 with
      | false =>
        have HL1 := Lib.hid (show L = foldI (txnsL (ls.take (k + 1)) (s0, t0, g0)) by rw [HNO.out rfl]; exact HLK.out)
        go_wp2
        go_roundw
        case rel => exact ⟨k + 1, m, A1, ca, L, by omega, by go_num, rfl, HL1, HLM, by omega, HO4, HB4, HK4⟩
        case measure => simp [intOf]; omega
      | true =>
        have HL1 := Lib.hid (show insI t L = foldI (txnsL (ls.take (k + 1)) (s0, t0, g0)) by rw [HYES.out rfl, fold_snoc, ← HLK.out])
        have hcl := own_capI HO4.out
        have HPU := Lib.hid (l1Put_any t A1 m ca L w4.heap.size w4 HLM.out (by rw [← HLM.out]; exact hcl.1) hcl.2 HO4.out.ints (Nat.le_refl _) (by omega))
        clear hcl
        go_wp2_with fail
        refine HPU.out.mono ?_
        rintro e w5 ⟨A5, c5, rfl, ho5, hb5⟩
        have HB5 := Lib.hid (HB4.out.trans (hb5.mono HB4.out.size))
        have HK5 := Lib.hid ((hb5.block w.heap.size (lt_blk HK4.out)).trans HK4.out)
        have HO5 := Lib.hid (show OwnI w5 w.heap.size w5.heap.size A5 c5 (insI t L) by
          rcases ho5 with ⟨rfl, rfl, he⟩ | ho5
          · rw [he]; exact own_growI HO4.out hb5
          · exact OwnI.wider ho5 HB4.out.size (Nat.le_refl _))
        have hlen := HLEN.out
        rw [← HL1.out] at hlen
        obtain ⟨m5, hm5⟩ : ∃ m5, m5 = (insI t L).length := ⟨_, rfl⟩
        rw [← hm5] at hlen ⊢
        have HM5 := Lib.hid hm5.symm
        clear ho5 hb5 hm5
        go_wp2
        go_roundw
        case rel => exact ⟨k + 1, m5, A5, c5, insI t L, by omega, by go_num, rfl, HL1, HM5, by omega, HO5, HB5, HK5⟩
        case measure => simp [intOf]; omega
    · have hkn : k = n := by omega
      subst hkn
      have HF := Lib.hid (show IRPost (foldI (txnsL ls (s0, t0, g0))) w (.returned (.slice A1 m ca)) wr by
        have e := HLK.out
        rw [List.take_of_length_le (by omega)] at e
        rw [← e]
        exact ⟨A1, ca, by rw [HLM.out], HO.out, HB.out⟩)
      clear x0 x1 x2
      go_wp2
      go_ret
      exact HF.out

set_option maxRecDepth 100000 in
set_option maxHeartbeats 4000000 in
theorem specWaitsFor_any (s : ByteArray) (t : Int) (g : Bool) (A : Option Addr) (n c : Nat) (ls : List LK) (B : Nat) (w : World) (hn : ls.length = n) (hcp : n ≤ c) (h : LksB w B A ls) (hB : B ≤ w.heap.size) (hm : KSmall ls) (hs : s.size ≤ 1048576) :
    Calls Try.prog 44 #[.slice A n c, .agg #[.string s, .int .i64 t, .bool g]] w (IAPost (waitA ls (s, t, g)) w) := by
  have HG := Lib.hid (fun W (hW : Below w.heap.size w W) => l12Good_any A n c ls B W hn hcp (h.below (hW.mono hB)) (Nat.le_trans hB hW.size) hm)
  have HL := Lib.hid (fun W => l12Lock_any s t g W hs)
  have HW := Lib.hid (fun W (hW : Below w.heap.size w W) => l12Waits_any s t g A n c ls B W hn hcp (h.below (hW.mono hB)) (Nat.le_trans hB hW.size) hm)
  have HB0 := Lib.hid (below1 w (.cells #[.string s, .int .i64 t, .bool g] 27))
  have hk0 := heap_alloc_new w (.cells #[.string s, .int .i64 t, .bool g] 27)
  have HWF := Lib.hid (waits_fold (l := ls) (x := (s, t, g)))
  unfold waitA
  obtain ⟨r1, hr1⟩ : ∃ r, r = goodB ls := ⟨_, rfl⟩
  obtain ⟨r2, hr2⟩ : ∃ r, r = lkB (s, t, g) := ⟨_, rfl⟩
  rw [← hr1] at HG HWF
  rw [← hr2] at HL
  rw [← hr1, ← hr2]
  clear hr1 hr2 h hn hm
  cases r1 with
  | false =>
    go_enter Try.func44, Try.ntmps44
    go_wp2_with fail
    refine (HG.out _ HB0.out).mono ?_
    rintro e w1 ⟨rfl, hb1⟩
    have HB1 := Lib.hid (HB0.out.trans (hb1.mono HB0.out.size))
    have hk1 := (hb1.block w.heap.size (lt_blk hk0)).trans hk0
    have y0 := cell_blk (i := 0) hk1 rfl
    have y1 := cell_blk (i := 1) hk1 rfl
    have y2 := cell_blk (i := 2) hk1 rfl
    have yl := lt_blk hk1
    clear hb1
    go_wp2
    exact bodyPost_ret (v := .tuple #[.slice none 0 0, .bool false]) (by simp [results, Try.results44, go_sem]) rfl ⟨none, 0, rfl, i_nil _ _ _, HB1.out⟩
  | true =>
    rw [HWF.out rfl] at HW
    cases r2 with
    | false =>
      go_enter Try.func44, Try.ntmps44
      go_wp2_with fail
      refine (HG.out _ HB0.out).mono ?_
      rintro e w1 ⟨rfl, hb1⟩
      have HB1 := Lib.hid (HB0.out.trans (hb1.mono HB0.out.size))
      have hk1 := (hb1.block w.heap.size (lt_blk hk0)).trans hk0
      have y0 := cell_blk (i := 0) hk1 rfl
      have y1 := cell_blk (i := 1) hk1 rfl
      have y2 := cell_blk (i := 2) hk1 rfl
      have yl := lt_blk hk1
      clear hb1
      go_wp2_with fail
      refine (HL.out _).mono ?_
      rintro e w2 ⟨rfl, hb2⟩
      have HB2 := Lib.hid (HB1.out.trans (hb2.mono HB1.out.size))
      have hk2 := (hb2.block w.heap.size yl).trans hk1
      have z0 := cell_blk (i := 0) hk2 rfl
      have z1 := cell_blk (i := 1) hk2 rfl
      have z2 := cell_blk (i := 2) hk2 rfl
      have zl := lt_blk hk2
      clear hb2 y0 y1 y2
      go_wp2
      exact bodyPost_ret (v := .tuple #[.slice none 0 0, .bool false]) (by simp [results, Try.results44, go_sem]) rfl ⟨none, 0, rfl, i_nil _ _ _, HB2.out⟩
    | true =>
      go_enter Try.func44, Try.ntmps44
      go_wp2_with fail
      refine (HG.out _ HB0.out).mono ?_
      rintro e w1 ⟨rfl, hb1⟩
      have HB1 := Lib.hid (HB0.out.trans (hb1.mono HB0.out.size))
      have hk1 := (hb1.block w.heap.size (lt_blk hk0)).trans hk0
      have y0 := cell_blk (i := 0) hk1 rfl
      have y1 := cell_blk (i := 1) hk1 rfl
      have y2 := cell_blk (i := 2) hk1 rfl
      have yl := lt_blk hk1
      clear hb1
      go_wp2_with fail
      refine (HL.out _).mono ?_
      rintro e w2 ⟨rfl, hb2⟩
      have HB2 := Lib.hid (HB1.out.trans (hb2.mono HB1.out.size))
      have hk2 := (hb2.block w.heap.size yl).trans hk1
      have z0 := cell_blk (i := 0) hk2 rfl
      have z1 := cell_blk (i := 1) hk2 rfl
      have z2 := cell_blk (i := 2) hk2 rfl
      have zl := lt_blk hk2
      clear hb2 y0 y1 y2
      go_wp2_with fail
      refine (HW.out _ HB2.out).mono ?_
      rintro e w3 ⟨A3, c3, rfl, ho3, hb3⟩
      have HF := Lib.hid (show IAPost (waitsL ls (s, t, g), true) w (.returned (.tuple #[.slice A3 (waitsL ls (s, t, g)).length c3, .bool true])) w3 from ⟨A3, c3, rfl, OwnI.wider ho3 HB2.out.size (Nat.le_refl _), HB2.out.trans (hb3.mono HB2.out.size)⟩)
      clear ho3 hb3 z0 z1 z2
      go_wp2
      exact bodyPost_ret (v := .tuple #[.slice A3 (waitsL ls (s, t, g)).length c3, .bool true]) (by simp [results, Try.results44, go_sem]) rfl HF.out
end Go.Proofs.Ytlfdefjkfacngaa.Lk
