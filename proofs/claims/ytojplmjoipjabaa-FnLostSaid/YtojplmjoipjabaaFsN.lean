/-
  A net in a cell of the call's own, and what calls leave of it.
-/
import Derived.Test.YtojplmjoipjabaaFsM
import Derived.Test.YtojplmjoipjabaaNtV
import Derived.Test.YtojplmjoipjabaaNtL0
import Derived.Test.YtojplmjoipjabaaNtG3
import Derived.Test.YtojplmjoipjabaaNtG4
import Derived.Test.YtojplmjoipjabaaNtF4
import Derived.Test.YtojplmjoipjabaaNtF1
import Derived.Test.YtojplmjoipjabaaNtF3
namespace Go.Proofs.Ytojplmjoipjabaa.Fs
open Go.RowKit Nt
set_option linter.unusedVariables false
set_option linter.unusedSimpArgs false

/-- A net stored in a block of its own, its slices owned. -/
def NetAt (w : World) (g : Nat) (t : Int) (is : List Int) (far : Int) (ls : List (Int × Int × Int × ByteArray)) (A : Option Addr) (c : Nat) (A' : Option Addr) (c' : Nat) : Prop :=
  w.heap[g]? = some (.cells #[.int .i64 t, .slice A is.length c, .int .i64 far, .slice A' ls.length c'] 35 (0, 0)) ∧ OwnI w 0 w.heap.size A c is ∧ OwnL w 0 w.heap.size A' c' ls
/-- A world with a net stored over a block. -/
def put (w : World) (g : Nat) (a b c d : Value) : World := (((w.setCell ⟨g, 0, none⟩ a).setCell ⟨g, 1, none⟩ b).setCell ⟨g, 2, none⟩ c).setCell ⟨g, 3, none⟩ d
section
variable {w w' : World} {g g' n k : Nat} {t t' far far' : Int} {is is' : List Int} {ls ls' : List (Int × Int × Int × ByteArray)} {A A' B B' : Option Addr} {c c' d d' : Nat} {p q r s : Value}
theorem put_size : (put w g p q r s).heap.size = w.heap.size := by simp [put, World.setCell]
theorem put_below {N : Nat} (h : Below N w w') (hg : N ≤ g) : Below N w (put w' g p q r s) := bel_put4 h hg
theorem put_blk {o : Obj} (h : w.heap[g']? = some o) (hne : g' ≠ g) : (put w g p q r s).heap[g']? = some o := by
  simp [put, World.setCell, Array.getElem?_modify, Ne.symm hne, h]
theorem put_same {cs : Array Value} {ty : TypeId} (h : w.heap[g]? = some (.cells cs ty (0, 0))) (hs : cs.size = 4) : (put w g p q r s).heap[g]? = some (.cells #[p, q, r, s] ty (0, 0)) := by
  have h1 := set_blk (i := 3) (v := s) (set_blk (i := 2) (v := r) (set_blk (i := 1) (v := q) (set_blk (i := 0) (v := p) h)))
  unfold put
  rw [h1]
  obtain ⟨l⟩ := cs
  rcases l with _ | ⟨a, _ | ⟨b, _ | ⟨x, _ | ⟨y, _ | ⟨z, l⟩⟩⟩⟩⟩ <;> simp at hs ⊢
theorem own_put {sz cap : Nat} {ty : TypeId} {L : List (List Value)} {lo hi : Nat} {cs : Array Value} (h : Own w lo hi ty sz A cap L) (hg : w.heap[g]? = some (.cells cs 35 (0, 0))) (hne : ty ≠ 35) : Own (put w g p q r s) lo hi ty sz A cap L := by
  have h1 := Own.otherT (p := ⟨g, 0, none⟩) h hg hne p
  have h2 := Own.otherT (p := ⟨g, 1, none⟩) h1 (set_blk (i := 0) (v := p) hg) hne q
  have h3 := Own.otherT (p := ⟨g, 2, none⟩) h2 (set_blk (i := 1) (v := q) (set_blk (i := 0) (v := p) hg)) hne r
  exact Own.otherT (p := ⟨g, 3, none⟩) h3 (set_blk (i := 2) (v := r) (set_blk (i := 1) (v := q) (set_blk (i := 0) (v := p) hg))) hne s
theorem NetAt.lt (h : NetAt w g t is far ls A c A' c') : g < w.heap.size := lt_blk h.1
theorem NetAt.below (h : NetAt w g t is far ls A c A' c') (hb : Below w.heap.size w w') : NetAt w' g t is far ls A c A' c' :=
  ⟨(hb.block g h.lt).trans h.1, (h.2.1.since hb (Nat.le_refl _)).wider (Nat.le_refl _) hb.size, (h.2.2.since hb (Nat.le_refl _)).wider (Nat.le_refl _) hb.size⟩
theorem NetAt.put (h : NetAt w g t is far ls A c A' c') (hi : OwnI w 0 w.heap.size B d is') (hl : OwnL w 0 w.heap.size B' d' ls') : NetAt (Fs.put w g (.int .i64 t') (.slice B is'.length d) (.int .i64 far') (.slice B' ls'.length d')) g t' is' far' ls' B d B' d' :=
  ⟨put_same h.1 rfl, by rw [put_size]; exact own_put hi h.1 (by decide), by rw [put_size]; exact own_put hl h.1 (by decide)⟩
theorem NetAt.over (h : NetAt w g' t is far ls A c A' c') {cs : Array Value} (hg : w.heap[g]? = some (.cells cs 35 (0, 0))) (hne : g' ≠ g) : NetAt (Fs.put w g p q r s) g' t is far ls A c A' c' :=
  ⟨put_blk h.1 hne, by rw [put_size]; exact own_put h.2.1 hg (by decide), by rw [put_size]; exact own_put h.2.2 hg (by decide)⟩
theorem NetAt.new (hi : OwnI w 0 w.heap.size A c is) (hl : OwnL w 0 w.heap.size A' c' ls) : NetAt (w.alloc (.cells #[.int .i64 t, .slice A is.length c, .int .i64 far, .slice A' ls.length c'] 35)) w.heap.size t is far ls A c A' c' :=
  ⟨heap_alloc_new _ _, (hi.since (below1 _ _) (Nat.le_refl _)).wider (Nat.le_refl _) (below1 _ _).size, (hl.since (below1 _ _) (Nat.le_refl _)).wider (Nat.le_refl _) (below1 _ _).size⟩
theorem NetAt.cells (h : NetAt w g t is far ls A c A' c') : w.cell? ⟨g, 0, none⟩ = some (.int .i64 t) ∧ w.cell? ⟨g, 1, none⟩ = some (.slice A is.length c) ∧ w.cell? ⟨g, 2, none⟩ = some (.int .i64 far) ∧ w.cell? ⟨g, 3, none⟩ = some (.slice A' ls.length c') :=
  ⟨cell_of_row _ _ 0 _ 35 (0, 0) h.1, cell_of_row _ _ 1 _ 35 (0, 0) h.1, cell_of_row _ _ 2 _ 35 (0, 0) h.1, cell_of_row _ _ 3 _ 35 (0, 0) h.1⟩
theorem NetAt.free (h : NetAt w g t is far ls A c A' c') (i : Nat) : w.frozen? ⟨g, i, none⟩ = false := free_blk h.1 i

/-- What a call that hands back a net leaves. -/
def Back (t : Int) (is : List Int) (far : Int) (ls : List (Int × Int × Int × ByteArray)) (ok : Bool) (w : World) (e : Ending) (w' : World) : Prop :=
  ∃ A c A' c', e = .returned (.tuple #[.agg #[.int .i64 t, .slice A is.length c, .int .i64 far, .slice A' ls.length c'], .bool ok]) ∧ OwnI w' 0 w'.heap.size A c is ∧ OwnL w' 0 w'.heap.size A' c' ls ∧ Below w.heap.size w w'
theorem back_of {a : Int × List Int × Int × List (Int × Int × Int × ByteArray) × Bool} {e : Ending} (h : NAPost a w e w') : Back a.1 a.2.1 a.2.2.1 a.2.2.2.1 a.2.2.2.2 w e w' := by
  obtain ⟨A, c, A', c', he, h1, h2, h3⟩ := h
  exact ⟨A, c, A', c', he, h1.wider (Nat.zero_le _) (Nat.le_refl _), h2.wider (Nat.zero_le _) (Nat.le_refl _), h3⟩
/-- Few letters with short bodies. -/
def Few (is : List Int) (ls : List (Int × Int × Int × ByteArray)) : Prop := is.length ≤ 1048576 ∧ LSmall ls
section
variable (h : NetAt w g t is far ls A c A' c') (hf : Few is ls)
include h hf
theorem implSend_at (a b : Int) (s : ByteArray) (hs : s.size ≤ 1048576) :
    Calls Try.prog 33 #[.agg #[.int .i64 t, .slice A is.length c, .int .i64 far, .slice A' ls.length c'], .int .i64 a, .int .i64 b, .string s] w (fun e w' => Back (sendA t is far ls a b s).1 (sendA t is far ls a b s).2.1 (sendA t is far ls a b s).2.2.1 (sendA t is far ls a b s).2.2.2.1 (sendA t is far ls a b s).2.2.2.2 w e w') :=
  (implSendTo_any t far A A' is.length c ls.length c' is ls a b s w.heap.size w rfl rfl h.2.1.ints h.2.2.lets (Nat.le_refl _) hf.2 hf.1 h.2.2.room hs).mono fun e w' h => back_of h
theorem specSend_at (a b : Int) (s : ByteArray) (hs : s.size ≤ 1048576) :
    Calls Try.prog 35 #[.agg #[.int .i64 t, .slice A is.length c, .int .i64 far, .slice A' ls.length c'], .int .i64 a, .int .i64 b, .string s] w (fun e w' => Back (sendA t is far ls a b s).1 (sendA t is far ls a b s).2.1 (sendA t is far ls a b s).2.2.1 (sendA t is far ls a b s).2.2.2.1 (sendA t is far ls a b s).2.2.2.2 w e w') :=
  (specSendTo_any t far A A' is.length c ls.length c' is ls a b s w.heap.size w rfl rfl h.2.1.ints h.2.2.lets (Nat.le_refl _) hf.2 hf.1 h.2.2.room hs).mono fun e w' h => back_of h
theorem implTick_at :
    Calls Try.prog 36 #[.agg #[.int .i64 t, .slice A is.length c, .int .i64 far, .slice A' ls.length c']] w (fun e w' => Back (tickA t is far ls).1 (tickA t is far ls).2.1 (tickA t is far ls).2.2.1 (tickA t is far ls).2.2.2.1 (tickA t is far ls).2.2.2.2 w e w') :=
  (implTickNet_any t far A A' is.length c ls.length c' is ls w.heap.size w rfl rfl h.2.1.ints h.2.2.lets (Nat.le_refl _) hf.2 hf.1 h.2.2.room).mono fun e w' h => back_of h
theorem implTrip_at (a b : Int) :
    Calls Try.prog 34 #[.agg #[.int .i64 t, .slice A is.length c, .int .i64 far, .slice A' ls.length c'], .int .i64 a, .int .i64 b] w (fun e w' => e = .returned (.tuple #[.int .i64 (tripA t is far ls a b).1, .bool (tripA t is far ls a b).2]) ∧ Below w.heap.size w w') :=
  implTripOf_any t far A A' is.length c ls.length c' is ls a b w.heap.size w rfl rfl h.2.1.ints h.2.2.lets (Nat.le_refl _) hf.2 hf.1
end
/-- What a delivery leaves. -/
def Dlv (t : Int) (is : List Int) (far : Int) (ls ts : List (Int × Int × Int × ByteArray)) (w : World) (e : Ending) (w' : World) : Prop :=
  ∃ A c A' c' D d, e = .returned (.tuple #[.agg #[.int .i64 t, .slice A is.length c, .int .i64 far, .slice A' ls.length c'], .slice D ts.length d, .bool true]) ∧ OwnI w' 0 w'.heap.size A c is ∧ OwnL w' 0 w'.heap.size A' c' ls ∧ OwnL w' 0 w'.heap.size D d ts ∧ Below w.heap.size w w'
theorem implDlv_at {ts : List (Int × Int × Int × ByteArray)} (h : NetAt w g t is far ls A c A' c') (hf : Few is ls) (hd : dlvA t is far ls = ((t', is', far', ls', true), ts)) :
    Calls Try.prog 37 #[.agg #[.int .i64 t, .slice A is.length c, .int .i64 far, .slice A' ls.length c']] w (Dlv t' is' far' ls' ts w) :=
  (implDeliver_any t far A A' is.length c ls.length c' is ls w.heap.size w rfl rfl h.2.1.ints h.2.2.lets (Nat.le_refl _) hf.2 hf.1 h.2.2.room).mono fun e w' hp => by
    rw [hd] at hp
    obtain ⟨A, c, A', c', D, d, he, h1, h2, h3, _, h4⟩ := hp
    exact ⟨A, c, A', c', D, d, he, h1.wider (Nat.zero_le _) (Nat.le_refl _), h2.wider (Nat.zero_le _) (Nat.le_refl _), h3.wider (Nat.zero_le _) (Nat.le_refl _), h4⟩
theorem specDlv_at {ts : List (Int × Int × Int × ByteArray)} (h : NetAt w g t is far ls A c A' c') (hf : Few is ls) (hd : dlvA t is far ls = ((t', is', far', ls', true), ts)) :
    Calls Try.prog 38 #[.agg #[.int .i64 t, .slice A is.length c, .int .i64 far, .slice A' ls.length c']] w (Dlv t' is' far' ls' ts w) :=
  (specDeliver_any t far A A' is.length c ls.length c' is ls w.heap.size w rfl rfl h.2.1.ints h.2.2.lets (Nat.le_refl _) hf.2 hf.1 h.2.2.room).mono fun e w' hp => by
    rw [hd] at hp
    obtain ⟨A, c, A', c', D, d, he, h1, h2, h3, _, h4⟩ := hp
    exact ⟨A, c, A', c', D, d, he, h1.wider (Nat.zero_le _) (Nat.le_refl _), h2.wider (Nat.zero_le _) (Nat.le_refl _), h3.wider (Nat.zero_le _) (Nat.le_refl _), h4⟩
theorem vNet_at (h : NetAt w g t is far ls A c A' c') (k : NetAt w g' t is far ls B d B' d') (hf : Few is ls) :
    Calls Try.prog 32 #[.agg #[.int .i64 t, .slice A is.length c, .int .i64 far, .slice A' ls.length c'], .agg #[.int .i64 t, .slice B is.length d, .int .i64 far, .slice B' ls.length d']] w (fun e w' => e = .returned (.bool true) ∧ Below w.heap.size w w') :=
  vNet_same t far A A' B B' is.length c ls.length c' d d' is ls w.heap.size w rfl rfl h.2.1.ints h.2.2.lets k.2.1.ints k.2.2.lets (Nat.le_refl _) hf.1 hf.2.1
theorem implNew_at (hh : OwnI w 0 n A c is) (hn : n ≤ w.heap.size) (hl : is.length ≤ 1048576) (hg : netB 0 is far [] = true) :
    Calls Try.prog 30 #[.slice A is.length c, .int .i64 far] w (Back 0 is far [] true w) :=
  (implNewNet_any A is.length c is far w.heap.size w rfl (hh.ints.mono hn) (Nat.le_refl _) hl).mono fun e w' h => by
    rw [newA_yes hg] at h; exact back_of h
theorem specNew_at (hh : OwnI w 0 n A c is) (hn : n ≤ w.heap.size) (hl : is.length ≤ 1048576) (hg : netB 0 is far [] = true) :
    Calls Try.prog 31 #[.slice A is.length c, .int .i64 far] w (Back 0 is far [] true w) :=
  (specNewNet_any A is.length c is far w.heap.size w rfl (hh.ints.mono hn) (Nat.le_refl _) hl).mono fun e w' h => by
    rw [newA_yes hg] at h; exact back_of h
theorem Run.small {lo hi : Int} (h : Run t is far ls lo hi) : Few is ls := by
  obtain ⟨_, h5, _⟩ := homesB_true h.homes
  refine ⟨by omega, by have := h.few; omega, fun x hx => ?_⟩
  have := (glB_parts (h.lets.2 x hx).1).2.2.2.2.2.2
  omega
end
end Go.Proofs.Ytojplmjoipjabaa.Fs
