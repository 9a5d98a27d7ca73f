/-
  Contracts for trimming: l3Trim, TrimCells of the model. What comes back is owned.
-/
import Derived.Test.YtcefofgdbmnkdaaAll
import Derived.Test.YtcefofgdbmnkdaaMarkC
namespace Go.Proofs.Ytcefofgdbmnkdaa
open Go.RowKit CM
set_option linter.unusedVariables false

/-- A row of cells, its versions in blocks of their own. -/
def RowC (w : World) (base : Nat) (v : Value) (gs : List (ByteArray × Option Addr × Nat × List (Int × ByteArray × Bool))) : Prop :=
  w.ownsRow base 81 2 v gs.length (gs.map cellCs).flatten ∧ VerOwn w base w.heap.size gs
theorem Own.grown {w w' : World} {lo hi sz cap : Nat} {t : TypeId} {A : Option Addr} {L : List (List Value)} {row : Option Nat} (h : Own w lo hi t sz A cap L) (hg : w.grownBy w' row) (hne : ∀ x, A = some x → some x.block ≠ row) : Own w' lo hi t sz A cap L := by
  rcases h with h | ⟨g, cur, hA, h1, h2, h3, h4⟩
  · exact .inl h
  · exact .inr ⟨g, cur, hA, h1, h2, (hg.block g (lt_blk h3) (hne _ hA)).trans h3, h4⟩
theorem RowC.nil (w : World) (base : Nat) : RowC w base (.slice none 0 0) [] := ⟨⟨rfl, .inl ⟨rfl, rfl⟩⟩, VerOwn.nil⟩
theorem RowC.below {w w' : World} {base : Nat} {v : Value} {gs : List (ByteArray × Option Addr × Nat × List (Int × ByteArray × Bool))} (h : RowC w base v gs) (hb : Below w.heap.size w w') : RowC w' base v gs :=
  ⟨row_below h.1 hb, (h.2.below hb).wider (Nat.le_refl _) hb.size⟩
/-- One cell more. -/
theorem RowC.more {w0 w1 w3 : World} {base : Nat} {v v3 : Value} {gs : List (ByteArray × Option Addr × Nat × List (Int × ByteArray × Bool))} {key : ByteArray} {A : Option Addr} {c : Nat} {vs : List (Int × ByteArray × Bool)} {o : Obj} (h : RowC w0 base v gs) (hbs : base ≤ w0.heap.size) (hb : Below w0.heap.size w0 w1)
    (hx : Own w1 w0.heap.size w1.heap.size 83 3 A c (vs.map verCs)) (hg : (w1.alloc o).grownBy w3 v.ownBlock) (ho : w3.ownsRow base 81 2 v3 (gs.length + 1) ((gs.map cellCs).flatten ++ [.string key, .slice A vs.length c])) : RowC w3 base v3 (gs ++ [(key, A, c, vs)]) := by
  have hv := (h.2.below hb).snoc (key, A, c, vs) hx hbs hb.size
  have hsz := hg.size
  refine ⟨?_, ?_, hv.2⟩
  · rw [List.length_append, List.map_append, List.flatten_append]
    exact ho
  · intro y hy
    have h1 := hv.1 y hy
    refine ((h1.below ((Below.refl _ _).alloc (Nat.le_refl _) o)).grown hg fun x hx e => ?_).wider (Nat.le_refl _) (by simp at hsz; omega)
    obtain ⟨_, _, c1, hc1⟩ := h1.block x hx
    rcases (row_below h.1 hb).2 with ⟨h2, _⟩ | ⟨g, cap, cur, h2, _, h3, _⟩
    · rw [h2] at e; simp [Value.ownBlock] at e
    · rw [h2] at e
      simp only [Value.ownBlock, Option.some.injEq] at e
      rw [e, h3] at hc1
      simp at hc1
/-- What comes back: cells of the call's own. -/
theorem RowC.own {w : World} {base : Nat} {v : Value} {gs : List (ByteArray × Option Addr × Nat × List (Int × ByteArray × Bool))} (h : RowC w base v gs) : ∃ A c, v = .slice A gs.length c ∧ OwnC w base w.heap.size A c gs := by
  obtain ⟨A, cap, hv, hn, ho⟩ := Own.ofRow h.1 (cellCs_len _) (by decide) (hi := w.heap.size) (fun k hk => (h.1.lt k hk).2)
  exact ⟨A, cap, by rw [hv, List.length_map], ho, h.2⟩

theorem trimC_take (cs : List (ByteArray × List (Int × ByteArray × Bool))) (f : Int) (k : Nat) (h : k < cs.length) : trimC f (cs.take (k + 1)) = trimC f (cs.take k) ++ (if 0 < (trimV f cs[k].2).length then [(cs[k].1, trimV f cs[k].2)] else []) := by
  rw [List.take_succ_eq_append_getElem h]
  have e : ∀ a b : List (ByteArray × List (Int × ByteArray × Bool)), trimC f (a ++ b) = trimC f a ++ trimC f b := fun a b => by unfold trimC; rw [List.filterMap_append]
  rw [e, trimC_cons]
  congr 1
  have h0 : trimC f ([] : List (ByteArray × List (Int × ByteArray × Bool))) = [] := rfl
  rw [h0]
  by_cases h1 : (trimV f cs[k].2).length = 0
  · rw [if_pos h1, if_neg (by omega)]
  · rw [if_neg h1, if_pos (by omega)]

/-- The row of cells so far. -/
def TrimRel (cs : List (ByteArray × List (Int × ByteArray × Bool))) (f : Int) (w : World) (k : Nat) (v : Value) (wr : World) : Prop :=
  ∃ gs : List (ByteArray × Option Addr × Nat × List (Int × ByteArray × Bool)), gs.map dat = trimC f (cs.take k) ∧ RowC wr w.heap.size v gs ∧ Below w.heap.size w wr
theorem TrimRel.start (cs : List (ByteArray × List (Int × ByteArray × Bool))) (f : Int) (w : World) : TrimRel cs f w 0 (.slice none 0 0) w := ⟨[], rfl, RowC.nil _ _, Below.refl _ _⟩
theorem TrimRel.skip {cs : List (ByteArray × List (Int × ByteArray × Bool))} {f : Int} {w wr w' : World} {k : Nat} {v : Value} {key : ByteArray} {vs : List (Int × ByteArray × Bool)} (h : TrimRel cs f w k v wr) (hk : k < cs.length) (hc : cs[k] = (key, vs)) (hno : (trimV f vs).length = 0) (hb : Below wr.heap.size wr w') : TrimRel cs f w (k + 1) v w' := by
  obtain ⟨gs, h1, h2, h3⟩ := h
  refine ⟨gs, ?_, h2.below hb, h3.trans (hb.mono h3.size)⟩
  rw [trimC_take cs f k hk, hc, h1, if_neg (by simp only; omega), List.append_nil]
theorem TrimRel.more {cs : List (ByteArray × List (Int × ByteArray × Bool))} {f : Int} {w wr w1 w3 : World} {k : Nat} {v v3 : Value} {key : ByteArray} {A : Option Addr} {c : Nat} {vs : List (Int × ByteArray × Bool)} {o : Obj} {gs : List (ByteArray × Option Addr × Nat × List (Int × ByteArray × Bool))} (h1 : gs.map dat = trimC f (cs.take k)) (h2 : RowC wr w.heap.size v gs) (h3 : Below w.heap.size w wr) (hk : k < cs.length) (hc : cs[k] = (key, vs)) (hy : 0 < (trimV f vs).length)
    (hb : Below wr.heap.size wr w1) (hx : Own w1 wr.heap.size w1.heap.size 83 3 A c ((trimV f vs).map verCs)) (hg : (w1.alloc o).grownBy w3 v.ownBlock) (ho : w3.ownsRow w.heap.size 81 2 v3 (gs.length + 1) ((gs.map cellCs).flatten ++ [.string key, .slice A (trimV f vs).length c])) : TrimRel cs f w (k + 1) v3 w3 := by
  refine ⟨gs ++ [(key, A, c, trimV f vs)], ?_, h2.more h3.size hb hx hg ho, below_app (h3.trans (hb.mono h3.size)) (Nat.le_refl _) (row_below h2.1 hb) hg⟩
  rw [trimC_take cs f k hk, hc, if_pos hy, List.map_append, h1]
  rfl
/-- What comes back. -/
def TrPost (cs : List (ByteArray × List (Int × ByteArray × Bool))) (w : World) (e : Ending) (w' : World) : Prop :=
  ∃ A c gs, e = .returned (.slice A gs.length c) ∧ gs.map dat = cs ∧ OwnC w' w.heap.size w'.heap.size A c gs ∧ Below w.heap.size w w'
theorem TrimRel.done {cs : List (ByteArray × List (Int × ByteArray × Bool))} {f : Int} {w wr : World} {v : Value} (h : TrimRel cs f w cs.length v wr) : TrPost (trimC f cs) w (.returned v) wr := by
  obtain ⟨gs, h1, h2, h3⟩ := h
  rw [List.take_length] at h1
  obtain ⟨A, c, hv, ho⟩ := h2.own
  exact ⟨A, c, gs, by rw [hv], h1, ho, h3⟩

/-- The row of versions so far. -/
def InRel (f : Int) (vs : List (Int × ByteArray × Bool)) (w : World) (k : Nat) (v : Value) (wr : World) : Prop :=
  wr.ownsRow w.heap.size 83 3 v (accV f vs k).length ((accV f vs k).map verCs).flatten ∧ Below w.heap.size w wr
theorem InRel.start (f : Int) (vs : List (Int × ByteArray × Bool)) (w : World) : InRel f vs w 0 (.slice none 0 0) w := ⟨⟨rfl, .inl ⟨rfl, rfl⟩⟩, Below.refl _ _⟩
theorem InRel.skip {f : Int} {vs : List (Int × ByteArray × Bool)} {w wr w' : World} {k : Nat} {v : Value} (h : InRel f vs w k v wr) (hk : k < vs.length) (hno : keepV f vs k = false) (hb : Below wr.heap.size wr w') : InRel f vs w (k + 1) v w' := by
  have e : accV f vs (k + 1) = accV f vs k := by rw [accV_succ f vs k hk, hno]; simp
  exact ⟨by rw [e]; exact row_below h.1 hb, h.2.trans (hb.mono h.2.size)⟩
theorem InRel.more {f : Int} {vs : List (Int × ByteArray × Bool)} {w wr w1 w3 : World} {k : Nat} {v v3 : Value} {o : Obj} {x : (Int × ByteArray × Bool)} (h : InRel f vs w k v wr) (hk : k < vs.length) (hx : vs[k] = x) (hy : keepV f vs k = true) (hb : Below wr.heap.size wr w1) (hg : (w1.alloc o).grownBy w3 v.ownBlock)
    (ho : w3.ownsRow w.heap.size 83 3 v3 ((accV f vs k).length + 1) (((accV f vs k).map verCs).flatten ++ [.int .i64 x.1, .string x.2.1, .bool x.2.2])) : InRel f vs w (k + 1) v3 w3 := by
  have e : accV f vs (k + 1) = accV f vs k ++ [x] := by rw [accV_succ f vs k hk, hy, hx]; simp
  refine ⟨?_, below_app (h.2.trans (hb.mono h.2.size)) (Nat.le_refl _) (row_below h.1 hb) hg⟩
  rw [e, List.length_append, List.map_append, List.flatten_append]
  exact ho
theorem accV_len (f : Int) (vs : List (Int × ByteArray × Bool)) (k : Nat) : (accV f vs k).length ≤ k := by
  induction k with
  | zero => simp [accV]
  | succ k ih =>
    rw [accV]
    split
    · split <;> (rw [List.length_append]; simp; omega)
    · rw [List.length_append]; simp; omega
theorem InRel.done {f : Int} {vs : List (Int × ByteArray × Bool)} {w wr : World} {v : Value} (h : InRel f vs w vs.length v wr) : ∃ A c, v = .slice A (trimV f vs).length c ∧ Own wr w.heap.size wr.heap.size 83 3 A c ((trimV f vs).map verCs) ∧ Below w.heap.size w wr := by
  obtain ⟨h1, h2⟩ := h
  rw [accV_all] at h1
  obtain ⟨A, cap, hv, hn, ho⟩ := Own.ofRow h1 (verCs_len _) (by decide) (hi := wr.heap.size) (fun k hk => (h1.lt k hk).2)
  exact ⟨A, cap, by rw [hv, List.length_map], ho, h2⟩
end Go.Proofs.Ytcefofgdbmnkdaa
