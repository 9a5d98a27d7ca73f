/-
  Copies of logs and groups in memory of their own: of the program and of the model.
-/
import Derived.Test.YtcelbnemblnabaaGrMem
import Derived.Test.YtcelbnemblnabaaApp
import Derived.Test.YtcelbnemblnabaaCopy
import Derived.Laws.Cover3
import Derived.Deep.RegionHeld3
import Derived.Deep.Cut
namespace Go.Proofs.Ytcelbnemblnabaa.Gr
open Go.RowKit CM
set_option linter.unusedVariables false
set_option linter.unusedSimpArgs false

/-- A row copied: what its elements point to is still shared. -/
def CopyX (t : TypeId) (sz : Nat) (L : List (List Value)) (n : Nat) (w : World) (e : Ending) (w' : World) : Prop :=
  ∃ A c, e = .returned (.slice A n c) ∧ Own w' w.heap.size w'.heap.size t sz A c L ∧ Below w.heap.size w w'
theorem enCs_len (hs : List EH) : ∀ x ∈ hs.map enCs, x.length = 8 := cs_len KE hs
theorem rpCs_len (hs : List RH) : ∀ x ∈ hs.map rpCs, x.length = 3 := cs_len KR hs
theorem strCs_one (ls : List ByteArray) : ∀ u ∈ (ls.map strCs).flatten, u.oneCell' = true := by
  intro u hu
  obtain ⟨l, hl, hu⟩ := List.mem_flatten.1 hu
  obtain ⟨v, _, rfl⟩ := List.mem_map.1 hl
  simp [strCs] at hu
  subst hu; rfl
theorem wrCs_one2 (ls : List (ByteArray × ByteArray × Bool)) : ∀ u ∈ (ls.map wrCs).flatten, u.oneCell' = true := by
  intro u hu
  obtain ⟨l, hl, hu⟩ := List.mem_flatten.1 hu
  obtain ⟨v, _, rfl⟩ := List.mem_map.1 hl
  simp [wrCs] at hu
  rcases hu with rfl | rfl | rfl <;> rfl
theorem enCs_one (ls : List EH) : ∀ u ∈ (ls.map enCs).flatten, u.oneCell' = true := by
  intro u hu
  obtain ⟨l, hl, hu⟩ := List.mem_flatten.1 hu
  obtain ⟨v, _, rfl⟩ := List.mem_map.1 hl
  simp [enCs] at hu
  rcases hu with rfl | rfl | rfl | rfl | rfl | rfl | rfl | rfl <;> rfl
theorem rpCs_one (ls : List RH) : ∀ u ∈ (ls.map rpCs).flatten, u.oneCell' = true := by
  intro u hu
  obtain ⟨l, hl, hu⟩ := List.mem_flatten.1 hu
  obtain ⟨v, _, rfl⟩ := List.mem_map.1 hl
  simp [rpCs] at hu
  rcases hu with rfl | rfl | rfl <;> rfl
theorem strs_src {w : World} {B n : Nat} {A : Option Addr} {ls : List ByteArray} (h : StrsB w B A ls) (hn : ls.length = n) (h0 : 0 < n) : ∃ ad, A = some ad ∧ ∀ j u, ((ls.map strCs).flatten)[j]? = some u → w.cell? (ad.add j) = some u := by
  obtain ⟨b, off, hA, _⟩ := h.get (by omega)
  subst hA
  exact ⟨_, rfl, row_src h (strCs_len _) (by decide)⟩
theorem wrs_src {w : World} {B n : Nat} {A : Option Addr} {ls : List (ByteArray × ByteArray × Bool)} (h : WritesB w B A ls) (hn : ls.length = n) (h0 : 0 < n) : ∃ ad, A = some ad ∧ ∀ j u, ((ls.map wrCs).flatten)[j]? = some u → w.cell? (ad.add j) = some u := by
  obtain ⟨b, off, hA, _⟩ := h.get (by omega)
  subst hA
  exact ⟨_, rfl, row_src h (wrCs_len _) (by decide)⟩
theorem ens_src {w : World} {B n : Nat} {A : Option Addr} {ls : List EH} (h : RowsB KE w B A ls) (hn : ls.length = n) (h0 : 0 < n) : ∃ ad, A = some ad ∧ ∀ j u, ((ls.map enCs).flatten)[j]? = some u → w.cell? (ad.add j) = some u := by
  obtain ⟨b, off, hA, _⟩ := RowsB.get h (by omega)
  subst hA
  exact ⟨_, rfl, row_src h.1 (cs_len KE _) (by decide)⟩
theorem rps_src {w : World} {B n : Nat} {A : Option Addr} {ls : List RH} (h : RowsB KR w B A ls) (hn : ls.length = n) (h0 : 0 < n) : ∃ ad, A = some ad ∧ ∀ j u, ((ls.map rpCs).flatten)[j]? = some u → w.cell? (ad.add j) = some u := by
  obtain ⟨b, off, hA, _⟩ := RowsB.get h (by omega)
  subst hA
  exact ⟨_, rfl, row_src h.1 (cs_len KR _) (by decide)⟩
section
variable {w w' : World} {lo hi cap g sz : Nat} {t : TypeId} {L L1 L2 : List (List Value)} {x : List Value}
theorem own_cell (h : Own w lo hi t sz (some ⟨g, 0, none⟩) cap L) (k : Nat) (hk : k < L.length) (i : Nat) (hi' : i < sz) : w.cell? ⟨g, k * sz + i, none⟩ = L[k][i]? := by
  rcases h.row with h0 | ⟨b, off, hA, _, hc⟩
  · subst h0; simp at hk
  · injection hA with hA
    injection hA with hb ho
    subst hb ho
    have := hc k hk i hi'
    rwa [Nat.zero_add] at this
theorem own_at (h : Own w lo hi t sz (some ⟨g, 0, none⟩) cap (L1 ++ x :: L2)) (j : Nat) (hj : j = L1.length) (i : Nat) (hi' : i < sz) : w.cell? ⟨g, j * sz + i, none⟩ = x[i]? := by
  subst hj
  have := own_cell h L1.length (by simp) i hi'
  simpa using this
theorem own_free (h : Own w lo hi t sz (some ⟨g, 0, none⟩) cap L) (i : Nat) : w.frozen? ⟨g, i, none⟩ = false := by
  rcases h with ⟨_, h, _⟩ | ⟨g', cur, hA, _, _, hh, _⟩
  · cases h
  · injection hA with hA
    injection hA with hg
    subst hg
    simp [World.frozen?, hh]
/-- A part of one element stored. -/
theorem own_part (h : Own w lo hi t sz (some ⟨g, 0, none⟩) cap (L1 ++ x :: L2)) (y : List Value) (i : Nat) (us : List Value) (hus : i + us.length ≤ sz) (hy : ∀ q, q < sz → y[q]? = if i ≤ q ∧ q < i + us.length then us[q - i]? else x[q]?) (m : Nat) (hm : m = L1.length * sz + i) : Own (putN w g m us) lo hi t sz (some ⟨g, 0, none⟩) cap (L1 ++ y :: L2) := by
  rcases h with ⟨he, _⟩ | ⟨g', cur, hA, b1, b2, b3, b4, b5, b6, b7⟩
  · simp at he
  · injection hA with hA
    injection hA with hg
    subst hg
    have hsz : L1.length * sz + sz ≤ cap * sz := by
      have h1 : (L1.length + 1) * sz ≤ cap * sz := Nat.mul_le_mul_right _ (by simp at b4; omega)
      rw [Nat.add_mul, Nat.one_mul] at h1
      exact h1
    refine .inr ⟨g, putA cur m us, rfl, b1, b2, putN_blk b3 _ _, by simpa using b4, b5, by rw [putA_size]; exact b6, fun j hj q hq => ?_⟩
    have hj' : j < (L1 ++ x :: L2).length := by simpa using hj
    have h8 := b7 j hj' q hq
    by_cases hjm : j = L1.length
    · subst hjm
      have e1 : (L1 ++ y :: L2)[L1.length]'hj = y := by simp
      have e2 : (L1 ++ x :: L2)[L1.length]'hj' = x := by simp
      rw [e1, hy q hq]
      rw [e2] at h8
      split
      · rename_i hin
        have := putA_at cur m us (q - i) (by omega) (by omega)
        rw [show m + (q - i) = L1.length * sz + q by omega] at this
        exact this
      · rename_i hin
        rw [putA_low _ _ _ _ (by omega)]
        exact h8
    · have hout : j * sz + q < m ∨ m + us.length ≤ j * sz + q := by
        rcases Nat.lt_or_ge j L1.length with hl | hl
        · have := fill_idx j sz L1.length q hl hq; omega
        · have h9 : (L1.length + 1) * sz ≤ j * sz := Nat.mul_le_mul_right _ (by omega)
          rw [Nat.add_mul, Nat.one_mul] at h9
          omega
      rw [putA_low _ _ _ _ hout, h8]
      rcases Nat.lt_or_ge j L1.length with hl | hl
      · rw [List.getElem_append_left hl, List.getElem_append_left hl]
      · rw [List.getElem_append_right hl, List.getElem_append_right hl]
        obtain ⟨q', hq'⟩ : ∃ q', j - L1.length = q' + 1 := ⟨j - L1.length - 1, by omega⟩
        simp only [hq', List.getElem_cons_succ]
end

/-- What copyRec hands back. -/
def CopyRPost (kk tt xx ll : Int) (yy : Bool) (nr : Nat) (rs : List ByteArray) (nw : Nat) (ws : List (ByteArray × ByteArray × Bool)) (w : World) (e : Ending) (w' : World) : Prop :=
  ∃ A1 c1 A2 c2 m, e = .returned (.agg #[.int .i64 kk, .int .i64 tt, .int .i64 xx, .int .i64 ll, .slice A1 nr c1, .slice A2 nw c2, .bool yy]) ∧ OwnS w' w.heap.size m A1 c1 rs ∧ OwnW w' m w'.heap.size A2 c2 ws ∧ w.heap.size ≤ m ∧ m ≤ w'.heap.size ∧ Below w.heap.size w w'
/-- A log copied into memory of its own. -/
def CopyLPost (es : List EH) (n : Nat) (w : World) (e : Ending) (w' : World) : Prop :=
  ∃ A1 c1 gs, e = .returned (.slice A1 n c1) ∧ gs.map EH.d = es.map EH.d ∧ OwnK KE w' w.heap.size w'.heap.size A1 c1 gs ∧ Below w.heap.size w w'
/-- An element appended to a row of the call's own. -/
theorem kd_app {α : Type} {K : Kd α} {W w' : World} {lo m k c : Nat} {A : Option Addr} {gs : List α} {v' : Value} {x : α} (hgs : OwnK K W lo m A c gs) (hm : m ≤ W.heap.size) (hlo : lo ≤ m) (hx : K.ow W x) (hx1 : m ≤ K.lo x) (hx2 : K.hi x ≤ W.heap.size) (hk : gs.length = k) (hsz : 0 < K.sz)
    (hown : w'.ownsRow lo K.t K.sz v' (k + 1) ((gs.map K.cs).flatten ++ K.cs x)) (hgr : W.grownBy w' (Value.slice A k c).ownBlock) (hat : v'.ownBlock = (Value.slice A k c).ownBlock ∨ v'.ownBlock = some W.heap.size) : ∃ A' c', v' = .slice A' (k + 1) c' ∧ OwnK K w' lo w'.heap.size A' c' (gs ++ [x]) := by
  have e : (gs.map K.cs).flatten ++ K.cs x = ((gs ++ [x]).map K.cs).flatten := by simp
  rw [e] at hown
  obtain ⟨A', c', hv, hl, ho⟩ := Own.ofRow hown (cs_len K _) hsz (hi := w'.heap.size) (fun k hk => (hown.lt k hk).2)
  rw [List.length_map, List.length_append, hk] at hv
  have hp : ∀ p, A' = some p → (∃ q, A = some q ∧ q.block = p.block) ∨ p.block = W.heap.size := fun p hp => by
    subst hp
    subst hv
    rcases hat with h | h
    · cases A with
      | none => simp [Value.ownBlock] at h
      | some q => exact .inl ⟨q, rfl, by simpa [Value.ownBlock] using h.symm⟩
    · exact .inr (by simpa [Value.ownBlock] using h)
  have hA : ∀ q, A = some q → lo ≤ q.block ∧ q.block < m := fun q hq => by have := Own.block hgs.1 q hq; exact ⟨this.1, this.2.1⟩
  have hkeep : ∀ y, (∀ q, A = some q → q.block < K.lo y ∨ K.hi y ≤ q.block) → Keep (K.lo y) (K.hi y) W w' := fun y hy b h1 h2 h3 => hgr.block b h3 (fun e => by
    cases A with
    | none => simp [Value.ownBlock] at e
    | some q =>
      simp [Value.ownBlock] at e
      have := hy q rfl
      omega)
  have hle := K.ow_le hx
  refine ⟨A', c', hv, ho, fun y hy => ?_, List.pairwise_append.2 ⟨hgs.2.2, List.pairwise_singleton _ _, fun a ha b hb => ?_⟩⟩
  · rcases List.mem_append.1 hy with hy | hy
    · obtain ⟨h1, h2, h3, h4⟩ := hgs.2.1 y hy
      refine ⟨K.ow_keep h1 (hkeep y h4), h2, Nat.le_trans h3 (Nat.le_trans hm hgr.size), fun p hpp => ?_⟩
      rcases hp p hpp with ⟨q, hq, hqp⟩ | hq
      · rw [← hqp]; exact h4 q hq
      · exact .inr (by omega)
    · rw [List.mem_singleton.1 hy]
      refine ⟨K.ow_keep hx (hkeep x fun q hq => .inl (by have := hA q hq; omega)), by omega, Nat.le_trans hx2 hgr.size, fun p hpp => ?_⟩
      rcases hp p hpp with ⟨q, hq, hqp⟩ | hq
      · exact .inl (by have := hA q hq; omega)
      · exact .inr (by omega)
  · rw [List.mem_singleton.1 hb]
    exact .inl (by have := (hgs.2.1 a ha).2.2.1; omega)
/-- What lies before the call stands. -/
theorem kd_below {α : Type} {K : Kd α} {w W w' : World} {lo m k c : Nat} {A : Option Addr} {gs : List α} (hgs : OwnK K W lo m A c gs) (hb : Below lo w W) (hlo : lo ≤ w.heap.size) (hgr : W.grownBy w' (Value.slice A k c).ownBlock) : Below lo w w' :=
  hb.grown hgr (by have := hb.size; omega) (fun b hbk => by
    cases A with
    | none => simp [Value.ownBlock] at hbk
    | some q => simp [Value.ownBlock] at hbk; have := (Own.block hgs.1 q rfl).1; omega)
/-- A list appended to a new empty row. -/
theorem app_empty {W w1 : World} {t : TypeId} {sz n : Nat} {L : List (List Value)} {v1 : Value} (hown1 : w1.ownsRow W.heap.size t sz v1 (0 + n) ([] ++ L.flatten)) (hgr1 : (W.alloc (.cells #[] t)).grownBy w1 (Value.slice (some ⟨W.heap.size, 0, none⟩) 0 0).ownBlock) (hL : ∀ x ∈ L, x.length = sz) (hsz : 0 < sz) (hn : L.length = n) : ∃ A1 c1, v1 = .slice A1 n c1 ∧ Own w1 W.heap.size w1.heap.size t sz A1 c1 L ∧ Below W.heap.size W w1 := by
  obtain ⟨A1, c1, hv, _, ho⟩ := Own.ofRow (w := w1) (lo := W.heap.size) (t := t) (sz := sz) (n := n) (v := v1) (L := L) (hi := w1.heap.size) (by simpa using hown1) hL hsz (fun k hk => (hown1.lt k hk).2)
  rw [hn] at hv
  exact ⟨A1, c1, hv, ho, (below1 W (.cells #[] t)).grown hgr1 (by simp) (fun k hk => by simp [Value.ownBlock] at hk; omega)⟩
theorem ownK_empty {α : Type} (K : Kd α) (w : World) : OwnK K (w.alloc (.cells #[] K.t)) w.heap.size (w.alloc (.cells #[] K.t)).heap.size (some ⟨w.heap.size, 0, none⟩) 0 [] :=
  ⟨.inr ⟨w.heap.size, #[], rfl, Nat.le_refl _, by simp, heap_alloc_new _ _, by simp, by unfold maxLen; omega, by simp, fun j hj => by simp at hj⟩, Nst.nil⟩

def SpecLPost (es : List EH) (n : Nat) (w : World) (e : Ending) (w' : World) : Prop :=
  ∃ A1 c1 gs, e = .returned (.slice A1 n c1) ∧ gs.map EH.d = es.map EH.d ∧ OwnK KE w' w.heap.size w'.heap.size A1 c1 gs ∧ Below w.heap.size w w'
theorem bel_d0 {w w1 : World} (h : Below w.drew.heap.size w.drew w1) : Below w.heap.size w w1 := ⟨h.1, h.2, h.3, h.4, fun k hk => h.5 k hk⟩
/-- A group copied into memory of its own. -/
def CopyGPost (hs : List RH) (n : Nat) (tm ld : Int) (w : World) (e : Ending) (w' : World) : Prop :=
  ∃ A1 c1 gs, e = .returned (.agg #[.slice A1 n c1, .int .i64 tm, .int .i64 ld]) ∧ gs.map rdat = hs.map rdat ∧ OwnK KR w' w.heap.size w'.heap.size A1 c1 gs ∧ Below w.heap.size w w'
theorem bel_d1 {w w1 : World} (h : Below w.drew.heap.size w.drew w1) : Below w.heap.size w w1 := ⟨h.1, h.2, h.3, h.4, fun k hk => h.5 k hk⟩
/-- A store into a block of another type, below the elements' own memory. -/
theorem OwnK.storeT {α : Type} {K : Kd α} {w : World} {lo hi cap : Nat} {A : Option Addr} {xs : List α} (h : OwnK K w lo hi A cap xs) {p : Addr} {t' : TypeId} {cur' : Array Value} {fz : Nat × Nat} (hp : w.heap[p.block]? = some (.cells cur' t' fz)) (hne : K.t ≠ t') (hx : ∀ x ∈ xs, p.block < K.lo x) (u : Value) : OwnK K (w.setCell p u) lo hi A cap xs :=
  ⟨Own.otherT h.1 hp hne u, fun x hxx => ⟨K.ow_keep (h.2.1 x hxx).1 (keep_set (.inl (hx x hxx)) u), (h.2.1 x hxx).2⟩, h.2.2⟩
theorem kd_ne {α : Type} {K : Kd α} {W : World} {lo m k c g : Nat} {A : Option Addr} {gs : List α} {cur : Array Value} {t : TypeId} {fz : Nat × Nat} (hgs : OwnK K W lo m A c gs) (hg : W.heap[g]? = some (Obj.cells cur t fz)) (ht : K.t ≠ t) : some g ≠ (Value.slice A k c).ownBlock := fun e => by
  cases A with
  | none => simp [Value.ownBlock] at e
  | some a =>
    obtain ⟨_, _, cur', hc⟩ := Own.block hgs.1 a rfl
    simp [Value.ownBlock] at e
    subst e
    rw [hg] at hc
    simp only [Option.some.injEq, Obj.cells.injEq] at hc
    exact ht hc.2.1.symm
theorem kd_below2 {α : Type} {K : Kd α} {w W w' : World} {B lo m k c : Nat} {A : Option Addr} {gs : List α} (hgs : OwnK K W lo m A c gs) (hb : Below B w W) (hB : B ≤ lo) (hW : B ≤ W.heap.size) (hgr : W.grownBy w' (Value.slice A k c).ownBlock) : Below B w w' :=
  hb.grown hgr hW (fun b hbk => by
    cases A with
    | none => simp [Value.ownBlock] at hbk
    | some q => simp [Value.ownBlock] at hbk; have := (Own.block hgs.1 q rfl).1; omega)
def SpecGPost (hs : List RH) (n : Nat) (tm ld : Int) (w : World) (e : Ending) (w' : World) : Prop :=
  ∃ A1 c1 gs, e = .returned (.agg #[.slice A1 n c1, .int .i64 tm, .int .i64 ld]) ∧ gs.map rdat = hs.map rdat ∧ OwnK KR w' w.heap.size w'.heap.size A1 c1 gs ∧ Below w.heap.size w w'
theorem own_start (w : World) (a b c : Obj) : OwnK KR ((((w.alloc a).alloc b).alloc (.cells #[] 36)).alloc c) (w.heap.size + 1 + 1) ((((w.alloc a).alloc b).alloc (.cells #[] 36)).alloc c).heap.size (some ⟨w.heap.size + 1 + 1, 0, none⟩) 0 [] := by
  have h := ownK_empty KR ((w.alloc a).alloc b)
  simp only [World.size_alloc] at h
  have h2 := h.keep (keep_alloc (lo := w.heap.size + 1 + 1) (hi := w.heap.size + 1 + 1 + 1) c)
  exact h2.wider (Nat.le_refl _) (by simp)
/-- The four cells that a round reads. -/
def Four (w : World) (W : World) (b off n c k nl cl : Nat) (up : Bool) (su : Int) (Al : Option Addr) : Prop := W.cell? ⟨w.heap.size, 0, none⟩ = some (.slice (some ⟨b, off, none⟩) n c) ∧ W.cell? ⟨b, off + k * 3, none⟩ = some (.bool up) ∧ W.cell? ⟨b, off + k * 3 + 1, none⟩ = some (.slice Al nl cl) ∧ W.cell? ⟨b, off + k * 3 + 2, none⟩ = some (.int .i64 su)
theorem own9_call {w wr w4 : World} {b off n c k nl cl c1 b1 : Nat} {up : Bool} {su : Int} {Al A1 B1 : Option Addr} {gs : List RH} {ls : List EH} (hb4 : Below wr.heap.size wr w4)
    (h : Four w wr b off n c k nl cl up su Al) (hlw : w.heap.size + 1 + 1 + 1 < wr.heap.size) (hbw : b < wr.heap.size) (z0 : wr.cell? ⟨w.heap.size + 1 + 1 + 1, 0, none⟩ = some (.slice A1 k c1))
    (HO : OwnK KR wr (w.heap.size + 1 + 1) wr.heap.size A1 c1 gs) (hk : gs.length = k) (ho4 : OwnK KE w4 wr.heap.size w4.heap.size B1 b1 ls) :
    ((w4.cell? ⟨w.heap.size, 0, none⟩ = some (.slice (some ⟨b, off, none⟩) n c) ∧ w4.cell? ⟨b, off + k * 3, none⟩ = some (.bool up) ∧ w4.cell? ⟨b, off + k * 3 + 1, none⟩ = some (.slice Al nl cl) ∧ w4.cell? ⟨b, off + k * 3 + 2, none⟩ = some (.int .i64 su)) ∧ (∀ o, (w4.alloc o).cell? ⟨w.heap.size, 0, none⟩ = some (.slice (some ⟨b, off, none⟩) n c) ∧ (w4.alloc o).cell? ⟨b, off + k * 3, none⟩ = some (.bool up) ∧ (w4.alloc o).cell? ⟨b, off + k * 3 + 1, none⟩ = some (.slice Al nl cl) ∧ (w4.alloc o).cell? ⟨b, off + k * 3 + 2, none⟩ = some (.int .i64 su))) ∧ w4.cell? ⟨w.heap.size + 1 + 1 + 1, 0, none⟩ = some (.slice A1 k c1) ∧ (∀ o, (w4.alloc o).cell? ⟨w.heap.size + 1 + 1 + 1, 0, none⟩ = some (.slice A1 k c1)) ∧
    KR.ow w4 ⟨up, su, B1, b1, ls, wr.heap.size, w4.heap.size⟩ ∧ OwnK KR (w4.alloc (.cells #[.bool up, .slice B1 nl b1, .int .i64 su] 36)) (w.heap.size + 1 + 1) wr.heap.size A1 c1 gs ∧ (w4.alloc (.cells #[.bool up, .slice B1 nl b1, .int .i64 su] 36)).ownsRow (w.heap.size + 1 + 1) 36 3 (.slice A1 k c1) k ((gs.map rpCs).flatten) ∧ (w4.alloc (.cells #[.bool up, .slice B1 nl b1, .int .i64 su] 36)).heap[w4.heap.size]? = some (.cells #[.bool up, .slice B1 nl b1, .int .i64 su] 36) ∧ w.heap.size + 1 + 1 ≤ (w4.alloc (.cells #[.bool up, .slice B1 nl b1, .int .i64 su] 36)).heap.size := by
  obtain ⟨h0, h1, h2, h3⟩ := h
  have hw : w.heap.size < wr.heap.size := by omega
  have hs4 := hb4.size
  have q0 := (hb4.cell (p := ⟨w.heap.size, 0, none⟩) hw).trans h0
  have q1 := (hb4.cell (p := ⟨b, off + k * 3, none⟩) hbw).trans h1
  have q2 := (hb4.cell (p := ⟨b, off + k * 3 + 1, none⟩) hbw).trans h2
  have q3 := (hb4.cell (p := ⟨b, off + k * 3 + 2, none⟩) hbw).trans h3
  have y0 := (hb4.cell (p := ⟨w.heap.size + 1 + 1 + 1, 0, none⟩) hlw).trans z0
  have ha : ∀ o, Below w4.heap.size w4 (w4.alloc o) := fun o => below1 w4 o
  have hOw := (HO.since hb4).since (ha (.cells #[.bool up, .slice B1 nl b1, .int .i64 su] 36))
  refine ⟨⟨⟨q0, q1, q2, q3⟩, fun o => ⟨?_, ?_, ?_, ?_⟩⟩, y0, fun o => ?_, ⟨hs4, ho4⟩, hOw, ?_, heap_alloc_new _ _, by simp; omega⟩
  · exact ((ha o).cell (p := ⟨w.heap.size, 0, none⟩) (Nat.lt_of_lt_of_le hw hs4)).trans q0
  · exact ((ha o).cell (p := ⟨b, off + k * 3, none⟩) (Nat.lt_of_lt_of_le hbw hs4)).trans q1
  · exact ((ha o).cell (p := ⟨b, off + k * 3 + 1, none⟩) (Nat.lt_of_lt_of_le hbw hs4)).trans q2
  · exact ((ha o).cell (p := ⟨b, off + k * 3 + 2, none⟩) (Nat.lt_of_lt_of_le hbw hs4)).trans q3
  · exact ((ha o).cell (p := ⟨w.heap.size + 1 + 1 + 1, 0, none⟩) (Nat.lt_of_lt_of_le hlw hs4)).trans y0
  · have h7 := Own.toRow hOw.1 (cs_len KR gs) (by decide)
    rw [List.length_map, hk] at h7
    exact h7
theorem own9_app {w wr w4 w5 : World} {b off n c k nl cl c1 b1 : Nat} {up : Bool} {tm ld su : Int} {Al A A1 B1 : Option Addr} {gs : List RH} {ls : List EH} {v5 : Value} (hb4 : Below wr.heap.size wr w4) (hbB : b < w.heap.size) (hlw : w.heap.size + 1 + 1 + 1 < wr.heap.size)
    (h4 : ∀ o, Four w (w4.alloc o) b off n c k nl cl up su Al) (HB : Below w.heap.size w wr)
    (HKA : wr.heap[w.heap.size]? = some (.cells #[.slice A n c, .int .i64 tm, .int .i64 ld] 29 (0, 0))) (HKB : wr.heap[w.heap.size + 1]? = some (.cells #[.slice none 0 0, .int .i64 0, .int .i64 0] 29 (0, 0))) (HKC : wr.heap[w.heap.size + 1 + 1 + 1]? = some (.cells #[.slice A1 k c1, .int .i64 tm, .int .i64 ld] 29 (0, 0)))
    (HOW : OwnK KR (w4.alloc (.cells #[.bool up, .slice B1 nl b1, .int .i64 su] 36)) (w.heap.size + 1 + 1) wr.heap.size A1 c1 gs) (hx : KR.ow w4 ⟨up, su, B1, b1, ls, wr.heap.size, w4.heap.size⟩) (hls : ls.length = nl) (hk : gs.length = k) (hlo : ∀ x ∈ gs, w.heap.size + 1 + 1 + 1 < x.lo)
    (hown5 : w5.ownsRow (w.heap.size + 1 + 1) 36 3 v5 (k + 1) ((gs.map rpCs).flatten ++ [.bool up, .slice B1 nl b1, .int .i64 su])) (hgr5 : (w4.alloc (.cells #[.bool up, .slice B1 nl b1, .int .i64 su] 36)).grownBy w5 (Value.slice A1 k c1).ownBlock) (hat5 : v5.ownBlock = (Value.slice A1 k c1).ownBlock ∨ v5.ownBlock = some (w4.alloc (.cells #[.bool up, .slice B1 nl b1, .int .i64 su] 36)).heap.size) :
    ∃ A5 c5, v5 = .slice A5 (k + 1) c5 ∧ (w5.cell? ⟨w.heap.size, 0, none⟩ = some (.slice (some ⟨b, off, none⟩) n c) ∧ w5.cell? ⟨b, off + k * 3, none⟩ = some (.bool up) ∧ w5.cell? ⟨b, off + k * 3 + 1, none⟩ = some (.slice Al nl cl) ∧ w5.cell? ⟨b, off + k * 3 + 2, none⟩ = some (.int .i64 su)) ∧ (∀ u, (w5.setCell ⟨w.heap.size + 1 + 1 + 1, 0, none⟩ u).cell? ⟨w.heap.size, 0, none⟩ = some (.slice (some ⟨b, off, none⟩) n c) ∧ (w5.setCell ⟨w.heap.size + 1 + 1 + 1, 0, none⟩ u).cell? ⟨b, off + k * 3, none⟩ = some (.bool up) ∧ (w5.setCell ⟨w.heap.size + 1 + 1 + 1, 0, none⟩ u).cell? ⟨b, off + k * 3 + 1, none⟩ = some (.slice Al nl cl) ∧ (w5.setCell ⟨w.heap.size + 1 + 1 + 1, 0, none⟩ u).cell? ⟨b, off + k * 3 + 2, none⟩ = some (.int .i64 su)) ∧ w5.cell? ⟨w.heap.size + 1 + 1 + 1, 0, none⟩ = some (.slice A1 k c1) ∧ (∀ i, w5.frozen? ⟨w.heap.size + 1 + 1 + 1, i, none⟩ = false) ∧
      (OwnK KR (w5.setCell ⟨w.heap.size + 1 + 1 + 1, 0, none⟩ (.slice A5 (k + 1) c5)) (w.heap.size + 1 + 1) (w5.setCell ⟨w.heap.size + 1 + 1 + 1, 0, none⟩ (.slice A5 (k + 1) c5)).heap.size A5 c5 (gs ++ [⟨up, su, B1, b1, ls, wr.heap.size, w4.heap.size⟩]) ∧ (∀ x ∈ gs ++ [(⟨up, su, B1, b1, ls, wr.heap.size, w4.heap.size⟩ : RH)], w.heap.size + 1 + 1 + 1 < x.lo) ∧ Below w.heap.size w (w5.setCell ⟨w.heap.size + 1 + 1 + 1, 0, none⟩ (.slice A5 (k + 1) c5)) ∧
      (w5.setCell ⟨w.heap.size + 1 + 1 + 1, 0, none⟩ (.slice A5 (k + 1) c5)).heap[w.heap.size]? = some (.cells #[.slice A n c, .int .i64 tm, .int .i64 ld] 29 (0, 0)) ∧ (w5.setCell ⟨w.heap.size + 1 + 1 + 1, 0, none⟩ (.slice A5 (k + 1) c5)).heap[w.heap.size + 1]? = some (.cells #[.slice none 0 0, .int .i64 0, .int .i64 0] 29 (0, 0)) ∧ (w5.setCell ⟨w.heap.size + 1 + 1 + 1, 0, none⟩ (.slice A5 (k + 1) c5)).heap[w.heap.size + 1 + 1 + 1]? = some (.cells #[.slice A5 (k + 1) c5, .int .i64 tm, .int .i64 ld] 29 (0, 0))) := by
  have hs4 := hb4.size
  have ha := below1 w4 (.cells #[.bool up, .slice B1 nl b1, .int .i64 su] 36)
  have hz : (w4.alloc (.cells #[.bool up, .slice B1 nl b1, .int .i64 su] 36)).heap.size = w4.heap.size + 1 := by simp
  have hka := (ha.block w.heap.size (by omega)).trans ((hb4.block w.heap.size (by omega)).trans HKA)
  have hkb := (ha.block (w.heap.size + 1) (by omega)).trans ((hb4.block (w.heap.size + 1) (by omega)).trans HKB)
  have hkc := (ha.block (w.heap.size + 1 + 1 + 1) (by omega)).trans ((hb4.block (w.heap.size + 1 + 1 + 1) (by omega)).trans HKC)
  have hcs : KR.cs ⟨up, su, B1, b1, ls, wr.heap.size, w4.heap.size⟩ = [.bool up, .slice B1 nl b1, .int .i64 su] := by show rpCs _ = _; simp only [rpCs, hls]
  obtain ⟨A5, c5, rfl, ho5⟩ := kd_app (K := KR) (x := ⟨up, su, B1, b1, ls, wr.heap.size, w4.heap.size⟩) HOW (by omega) (by omega) (KR.ow_keep hx (keep_since ha)) (Nat.le_refl _) (by simp only [KR]; omega) hk (by decide) (by rw [hcs]; exact hown5) hgr5 hat5
  have hka5 := (hgr5.block _ (lt_blk hka) (kd_ne HOW hka (by decide))).trans hka
  have hkb5 := (hgr5.block _ (lt_blk hkb) (kd_ne HOW hkb (by decide))).trans hkb
  have hkc5 := (hgr5.block _ (lt_blk hkc) (kd_ne HOW hkc (by decide))).trans hkc
  have hne : some b ≠ (Value.slice A1 k c1).ownBlock := fun e => by
    cases A1 with
    | none => simp [Value.ownBlock] at e
    | some q => simp [Value.ownBlock] at e; have := (Own.block HOW.1 q rfl).1; omega
  have hbb := hgr5.block b (by omega) hne
  obtain ⟨f0, f1, f2, f3⟩ := h4 (.cells #[.bool up, .slice B1 nl b1, .int .i64 su] 36)
  have hcell : ∀ o, w5.cell? ⟨b, o, none⟩ = (w4.alloc (.cells #[.bool up, .slice B1 nl b1, .int .i64 su] 36)).cell? ⟨b, o, none⟩ := fun o => by simp only [World.cell?, hbb]
  have g0 : w5.cell? ⟨w.heap.size, 0, none⟩ = some (.slice (some ⟨b, off, none⟩) n c) := by
    have e := cell_blk (i := 0) hka5 rfl
    have e2 := cell_blk (i := 0) hka rfl
    rw [e2] at f0
    rw [e]; exact f0
  have g1 := (hcell _).trans f1
  have g2 := (hcell _).trans f2
  have g3 := (hcell _).trans f3
  have hF : ∀ x ∈ gs ++ [(⟨up, su, B1, b1, ls, wr.heap.size, w4.heap.size⟩ : RH)], w.heap.size + 1 + 1 + 1 < x.lo := fun x hx => by
    rcases List.mem_append.1 hx with hx | hx
    · exact hlo x hx
    · rw [List.mem_singleton.1 hx]; exact hlw
  have hset : ∀ u (p : Addr), p.block ≠ w.heap.size + 1 + 1 + 1 → (w5.setCell ⟨w.heap.size + 1 + 1 + 1, 0, none⟩ u).cell? p = w5.cell? p := fun u p hp => World.cell?_setCell_far w5 ⟨w.heap.size + 1 + 1 + 1, 0, none⟩ p u (by simp; omega)
  refine ⟨A5, c5, rfl, ⟨g0, g1, g2, g3⟩, fun u => ⟨(hset u _ (by simp; omega)).trans g0, (hset u _ (by simp; omega)).trans g1, (hset u _ (by simp; omega)).trans g2, (hset u _ (by simp; omega)).trans g3⟩, cell_blk (i := 0) hkc5 rfl, fun i => free_blk hkc5 i,
    (ho5.storeT (p := ⟨w.heap.size + 1 + 1 + 1, 0, none⟩) hkc5 (by decide) hF _).wider (Nat.le_refl _) (by simp [World.setCell]), hF, ?_, ?_, ?_, set_blk hkc5 (i := 0) _⟩
  · exact (kd_below2 HOW ((HB.trans (hb4.mono HB.size)).trans (ha.mono (Nat.le_trans HB.size hs4))) (show w.heap.size ≤ w.heap.size + 1 + 1 by omega) (by omega) hgr5).setCell (p := ⟨w.heap.size + 1 + 1 + 1, 0, none⟩) (show w.heap.size ≤ w.heap.size + 1 + 1 + 1 by omega) _
  · exact (Below.heap_setCell (w := w5) ⟨w.heap.size + 1 + 1 + 1, 0, none⟩ _ w.heap.size (by simp; omega)).trans hka5
  · exact (Below.heap_setCell (w := w5) ⟨w.heap.size + 1 + 1 + 1, 0, none⟩ _ (w.heap.size + 1) (by simp)).trans hkb5
end Go.Proofs.Ytcelbnemblnabaa.Gr
