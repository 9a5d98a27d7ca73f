/-
  The plain mathematics of multiversion cells: keys in order, writes put in, the version at a time, trimming. Nothing of the program.
-/
import Derived.Laws.Strings
namespace Go.Proofs.Ytpppgihoekfmoaa.CM
open Go

/-! ### Keys -/
def kLt (a b : ByteArray) : Bool := Op.bytesLess a.toList b.toList
theorem less_irrefl : ∀ x : List UInt8, Op.bytesLess x x = false
  | [] => rfl
  | a :: x => by simp [Op.bytesLess, less_irrefl x]
theorem less_trans : ∀ x y z : List UInt8, Op.bytesLess x y = true → Op.bytesLess y z = true → Op.bytesLess x z = true
  | [], [], _, h, _ => by simp [Op.bytesLess] at h
  | [], _ :: _, [], _, h => by simp [Op.bytesLess] at h
  | [], _ :: _, _ :: _, _, _ => by simp [Op.bytesLess]
  | _ :: _, [], _, h, _ => by simp [Op.bytesLess] at h
  | _ :: _, _ :: _, [], _, h => by simp [Op.bytesLess] at h
  | a :: x, b :: y, c :: z, h1, h2 => by
    simp only [Op.bytesLess, Bool.or_eq_true, Bool.and_eq_true, decide_eq_true_eq, beq_iff_eq] at h1 h2 ⊢
    rcases h1 with h1 | ⟨rfl, h1⟩
    · rcases h2 with h2 | ⟨rfl, h2⟩
      · exact .inl (UInt8.lt_trans h1 h2)
      · exact .inl h1
    · rcases h2 with h2 | ⟨rfl, h2⟩
      · exact .inl h2
      · exact .inr ⟨rfl, less_trans x y z h1 h2⟩
theorem less_total : ∀ x y : List UInt8, x ≠ y → Op.bytesLess x y = false → Op.bytesLess y x = true
  | [], [], h, _ => absurd rfl h
  | [], _ :: _, _, h => by simp [Op.bytesLess] at h
  | _ :: _, [], _, _ => by simp [Op.bytesLess]
  | a :: x, b :: y, hne, h => by
    simp only [Op.bytesLess, Bool.or_eq_false_iff, Bool.and_eq_false_iff, decide_eq_false_iff_not, beq_eq_false_iff_ne] at h
    simp only [Op.bytesLess, Bool.or_eq_true, Bool.and_eq_true, decide_eq_true_eq, beq_iff_eq]
    by_cases hab : a = b
    · subst hab
      have hxy : x ≠ y := fun e => hne (by rw [e])
      rcases h.2 with h2 | h2
      · exact absurd rfl h2
      · exact .inr ⟨rfl, less_total x y hxy h2⟩
    · left
      have h1 := h.1
      rw [UInt8.not_lt] at h1
      exact UInt8.lt_of_le_of_ne h1 (fun e => hab e.symm)
theorem list_inj {a b : ByteArray} (h : a.toList = b.toList) : a = b := by
  rw [ByteArray.toList_eq, ByteArray.toList_eq] at h
  obtain ⟨⟨x⟩⟩ := a
  obtain ⟨⟨y⟩⟩ := b
  simp at h
  rw [h]
theorem kLt_irrefl (a : ByteArray) : kLt a a = false := less_irrefl _
theorem kLt_trans {a b c : ByteArray} (h1 : kLt a b = true) (h2 : kLt b c = true) : kLt a c = true := less_trans _ _ _ h1 h2
theorem kLt_total {a b : ByteArray} (hne : a ≠ b) (h : kLt a b = false) : kLt b a = true := less_total _ _ (fun e => hne (list_inj e)) h
theorem kLt_ne {a b : ByteArray} (h : kLt a b = true) : a ≠ b := fun e => by subst e; rw [kLt_irrefl] at h; cases h
theorem kLt_asymm {a b : ByteArray} (h : kLt a b = true) : kLt b a = false := by
  cases e : kLt b a with
  | false => rfl
  | true => have := kLt_trans h e; rw [kLt_irrefl] at this; cases this

/-! ### Rising lists, by neighbours and by pairs -/
section
variable {α : Type}
def upB (lt : α → α → Bool) : List α → Bool
  | [] => true
  | [_] => true
  | a :: b :: r => lt a b && upB lt (b :: r)
theorem upB_snoc (lt : α → α → Bool) (l : List α) (a b : α) : upB lt (l ++ [a, b]) = (upB lt (l ++ [a]) && lt a b) := by
  induction l with
  | nil => simp [upB]
  | cons x l ih =>
    cases l with
    | nil => simp [upB]
    | cons y l =>
      simp only [List.cons_append, upB] at ih ⊢
      rw [ih, Bool.and_assoc]
theorem upB_take (lt : α → α → Bool) (l : List α) (k : Nat) (h : k + 1 < l.length) : upB lt (l.take (k + 2)) = (upB lt (l.take (k + 1)) && lt l[k] l[k + 1]) := by
  rw [List.take_succ_eq_append_getElem h, List.take_succ_eq_append_getElem (show k < l.length by omega), List.append_assoc, List.singleton_append]
  exact upB_snoc lt _ _ _
theorem upB_take1 (lt : α → α → Bool) (l : List α) : upB lt (l.take 1) = true := by
  cases l with
  | nil => rfl
  | cons a l => rfl
theorem upB_head (lt : α → α → Bool) (ht : ∀ a b c, lt a b = true → lt b c = true → lt a c = true) {a : α} {l : List α} (h : upB lt (a :: l) = true) : ∀ b ∈ l, lt a b = true := by
  induction l generalizing a with
  | nil => simp
  | cons b l ih =>
    simp only [upB, Bool.and_eq_true] at h
    intro x hx
    rcases List.mem_cons.1 hx with rfl | hx
    · exact h.1
    · exact ht _ _ _ h.1 (ih h.2 x hx)
theorem upB_tail (lt : α → α → Bool) {a : α} {l : List α} (h : upB lt (a :: l) = true) : upB lt l = true := by
  cases l with
  | nil => rfl
  | cons b l => simp only [upB, Bool.and_eq_true] at h; exact h.2
theorem upB_iff (lt : α → α → Bool) (ht : ∀ a b c, lt a b = true → lt b c = true → lt a c = true) (l : List α) : upB lt l = true ↔ l.Pairwise fun a b => lt a b = true := by
  induction l with
  | nil => simp [upB]
  | cons a l ih =>
    constructor
    · intro h
      exact List.pairwise_cons.2 ⟨upB_head lt ht h, ih.1 (upB_tail lt h)⟩
    · intro h
      obtain ⟨h1, h2⟩ := List.pairwise_cons.1 h
      cases l with
      | nil => rfl
      | cons b l => simp only [upB, Bool.and_eq_true]; exact ⟨h1 b (by simp), ih.2 h2⟩
end

/-! ### Versions -/
/-- The last version at or before a time. -/
def verAt (vs : List (Int × ByteArray × Bool)) (t : Int) : Option (Int × ByteArray × Bool) := (vs.filter fun v => decide (v.1 ≤ t)).getLast?
/-- What a look at a time gives. -/
def lookV (vs : List (Int × ByteArray × Bool)) (t : Int) : ByteArray × Bool :=
  match verAt vs t with
  | some v => (v.2.1, !v.2.2)
  | none => (ByteArray.empty, false)
def lastT (vs : List (Int × ByteArray × Bool)) : Int := match vs.getLast? with | some v => v.1 | none => 0
def tLt (a b : Int × ByteArray × Bool) : Bool := decide (a.1 < b.1)
theorem tLt_trans (a b c : Int × ByteArray × Bool) (h1 : tLt a b = true) (h2 : tLt b c = true) : tLt a c = true := by
  simp only [tLt, decide_eq_true_eq] at h1 h2 ⊢
  omega
theorem verAt_snoc_le (vs : List (Int × ByteArray × Bool)) (v : Int × ByteArray × Bool) (t : Int) (h : v.1 ≤ t) : verAt (vs ++ [v]) t = some v := by
  simp [verAt, List.filter_append, h]
theorem verAt_snoc_gt (vs : List (Int × ByteArray × Bool)) (v : Int × ByteArray × Bool) (t : Int) (h : t < v.1) : verAt (vs ++ [v]) t = verAt vs t := by
  have : ¬ v.1 ≤ t := by omega
  simp [verAt, List.filter_append, this]
theorem lastT_snoc (vs : List (Int × ByteArray × Bool)) (v : Int × ByteArray × Bool) : lastT (vs ++ [v]) = v.1 := by simp [lastT]
theorem up_snoc (vs : List (Int × ByteArray × Bool)) (v : Int × ByteArray × Bool) (h : upB tLt vs = true) (hl : lastT vs < v.1) : upB tLt (vs ++ [v]) = true := by
  rcases List.eq_nil_or_concat vs with rfl | ⟨us, u, rfl⟩
  · rfl
  · rw [List.concat_eq_append] at h hl ⊢
    rw [List.append_assoc, List.singleton_append, upB_snoc, h]
    rw [lastT_snoc] at hl
    simpa [tLt] using hl
/-- The version at a time as a fold from the left: what a loop over the versions keeps. -/
theorem verAt_take (vs : List (Int × ByteArray × Bool)) (t : Int) (k : Nat) (h : k < vs.length) : verAt (vs.take (k + 1)) t = if vs[k].1 ≤ t then some vs[k] else verAt (vs.take k) t := by
  rw [List.take_succ_eq_append_getElem h]
  by_cases hv : vs[k].1 ≤ t
  · rw [verAt_snoc_le _ _ _ hv, if_pos hv]
  · rw [verAt_snoc_gt _ _ _ (by omega), if_neg hv]
theorem verAt_mem {vs : List (Int × ByteArray × Bool)} {t : Int} {v : Int × ByteArray × Bool} (h : verAt vs t = some v) : v ∈ vs ∧ v.1 ≤ t := by
  have := List.mem_of_getLast? h
  simpa using this

/-! ### Cells -/
def kEq (a b : ByteArray) : Bool := a.toList == b.toList
theorem kEq_iff {a b : ByteArray} : kEq a b = true ↔ a = b := by
  unfold kEq
  rw [beq_iff_eq]
  exact ⟨list_inj, fun h => by rw [h]⟩
theorem kEq_self (a : ByteArray) : kEq a a = true := kEq_iff.2 rfl
theorem kEq_ne {a b : ByteArray} (h : a ≠ b) : kEq a b = false := by
  cases e : kEq a b with
  | false => rfl
  | true => exact absurd (kEq_iff.1 e) h
/-- Keys rise. -/
def cLt (a b : ByteArray × List (Int × ByteArray × Bool)) : Bool := kLt a.1 b.1
theorem cLt_trans (a b c : ByteArray × List (Int × ByteArray × Bool)) (h1 : cLt a b = true) (h2 : cLt b c = true) : cLt a c = true := kLt_trans h1 h2
/-- The versions of a key. -/
def findC : List (ByteArray × List (Int × ByteArray × Bool)) → ByteArray → Option (List (Int × ByteArray × Bool))
  | [], _ => none
  | c :: r, k => if kEq c.1 k then some c.2 else findC r k
theorem findC_mem {l : List (ByteArray × List (Int × ByteArray × Bool))} {k : ByteArray} {vs : List (Int × ByteArray × Bool)} (h : findC l k = some vs) : (k, vs) ∈ l := by
  induction l with
  | nil => simp [findC] at h
  | cons c r ih =>
    unfold findC at h
    by_cases e : kEq c.1 k = true
    · rw [if_pos e] at h
      injection h with h
      have := kEq_iff.1 e
      subst this h
      simp
    · rw [if_neg e] at h
      exact List.mem_cons_of_mem _ (ih h)
theorem findC_none_of_lt {l : List (ByteArray × List (Int × ByteArray × Bool))} {k : ByteArray} (h : ∀ c ∈ l, kLt k c.1 = true) : findC l k = none := by
  induction l with
  | nil => rfl
  | cons c r ih =>
    unfold findC
    rw [if_neg (by rw [kEq_ne (kLt_ne (h c (by simp))).symm]; simp)]
    exact ih fun c hc => h c (List.mem_cons_of_mem _ hc)
theorem findC_of_mem {l : List (ByteArray × List (Int × ByteArray × Bool))} {k : ByteArray} {vs : List (Int × ByteArray × Bool)} (hs : upB cLt l = true) (h : (k, vs) ∈ l) : findC l k = some vs := by
  induction l with
  | nil => simp at h
  | cons c r ih =>
    unfold findC
    rcases List.mem_cons.1 h with rfl | h
    · rw [if_pos (kEq_self _)]
    · have hlt := upB_head cLt cLt_trans hs (k, vs) h
      rw [if_neg (by rw [kEq_ne (kLt_ne hlt)]; simp)]
      exact ih (upB_tail cLt hs) h

/-- A version put into the cells of its key. -/
def ins : List (ByteArray × List (Int × ByteArray × Bool)) → ByteArray → (Int × ByteArray × Bool) → Option (List (ByteArray × List (Int × ByteArray × Bool)))
  | [], x, v => some [(x, [v])]
  | c :: r, x, v =>
    if kEq c.1 x then (if lastT c.2 < v.1 then some ((c.1, c.2 ++ [v]) :: r) else none)
    else if kLt x c.1 then some ((x, [v]) :: c :: r)
    else (ins r x v).map (c :: ·)

theorem ins_keys {l p : List (ByteArray × List (Int × ByteArray × Bool))} {x : ByteArray} {v : Int × ByteArray × Bool} (h : ins l x v = some p) : ∀ c ∈ p, c.1 = x ∨ ∃ d ∈ l, d.1 = c.1 := by
  induction l generalizing p with
  | nil =>
    simp only [ins, Option.some.injEq] at h
    subst h
    intro c hc; simp at hc; subst hc; exact .inl rfl
  | cons a r ih =>
    unfold ins at h
    by_cases e : kEq a.1 x = true
    · rw [if_pos e] at h
      by_cases hl : lastT a.2 < v.1
      · rw [if_pos hl] at h
        injection h with h
        subst h
        intro c hc
        rcases List.mem_cons.1 hc with rfl | hc
        · exact .inl (kEq_iff.1 e)
        · exact .inr ⟨c, List.mem_cons_of_mem _ hc, rfl⟩
      · rw [if_neg hl] at h; cases h
    · rw [if_neg e] at h
      by_cases hk : kLt x a.1 = true
      · rw [if_pos hk] at h
        injection h with h
        subst h
        intro c hc
        rcases List.mem_cons.1 hc with rfl | hc
        · exact .inl rfl
        · exact .inr ⟨c, hc, rfl⟩
      · rw [if_neg hk] at h
        obtain ⟨q, hq, rfl⟩ := Option.map_eq_some_iff.1 h
        intro c hc
        rcases List.mem_cons.1 hc with rfl | hc
        · exact .inr ⟨c, by simp, rfl⟩
        · rcases ih hq c hc with h1 | ⟨d, hd, h1⟩
          · exact .inl h1
          · exact .inr ⟨d, List.mem_cons_of_mem _ hd, h1⟩

theorem upB_cons {a : ByteArray × List (Int × ByteArray × Bool)} {l : List (ByteArray × List (Int × ByteArray × Bool))} (h1 : ∀ c ∈ l, kLt a.1 c.1 = true) (h2 : upB cLt l = true) : upB cLt (a :: l) = true := by
  cases l with
  | nil => rfl
  | cons b l => simp only [upB, Bool.and_eq_true]; exact ⟨h1 b (by simp), h2⟩

theorem ins_up {l p : List (ByteArray × List (Int × ByteArray × Bool))} {x : ByteArray} {v : Int × ByteArray × Bool} (hs : upB cLt l = true) (h : ins l x v = some p) : upB cLt p = true := by
  induction l generalizing p with
  | nil =>
    simp only [ins, Option.some.injEq] at h
    subst h; rfl
  | cons a r ih =>
    have hh := upB_head cLt cLt_trans hs
    have ht := upB_tail cLt hs
    unfold ins at h
    by_cases e : kEq a.1 x = true
    · rw [if_pos e] at h
      by_cases hl : lastT a.2 < v.1
      · rw [if_pos hl] at h
        injection h with h
        subst h
        exact upB_cons (fun c hc => hh c hc) ht
      · rw [if_neg hl] at h; cases h
    · rw [if_neg e] at h
      by_cases hk : kLt x a.1 = true
      · rw [if_pos hk] at h
        injection h with h
        subst h
        refine upB_cons (fun c hc => ?_) hs
        rcases List.mem_cons.1 hc with rfl | hc
        · exact hk
        · exact kLt_trans hk (hh c hc)
      · rw [if_neg hk] at h
        obtain ⟨q, hq, rfl⟩ := Option.map_eq_some_iff.1 h
        refine upB_cons (fun c hc => ?_) (ih ht hq)
        rcases ins_keys hq c hc with h1 | ⟨d, hd, h1⟩
        · rw [h1]
          exact kLt_total (fun e' => e (by rw [← e']; exact kEq_self _)) (by cases e2 : kLt x a.1 with | false => rfl | true => exact absurd e2 hk)
        · rw [← h1]; exact hh d hd

theorem find_ins_self {l p : List (ByteArray × List (Int × ByteArray × Bool))} {x : ByteArray} {v : Int × ByteArray × Bool} (hs : upB cLt l = true) (h : ins l x v = some p) : findC p x = some ((findC l x).getD [] ++ [v]) := by
  induction l generalizing p with
  | nil =>
    simp only [ins, Option.some.injEq] at h
    subst h; simp [findC, kEq_self]
  | cons a r ih =>
    have hh := upB_head cLt cLt_trans hs
    unfold ins at h
    by_cases e : kEq a.1 x = true
    · rw [if_pos e] at h
      by_cases hl : lastT a.2 < v.1
      · rw [if_pos hl] at h
        injection h with h
        subst h
        simp [findC, e]
      · rw [if_neg hl] at h; cases h
    · rw [if_neg e] at h
      by_cases hk : kLt x a.1 = true
      · rw [if_pos hk] at h
        injection h with h
        subst h
        have hn : findC (a :: r) x = none := findC_none_of_lt fun c hc => by
          rcases List.mem_cons.1 hc with rfl | hc
          · exact hk
          · exact kLt_trans hk (hh c hc)
        rw [hn]
        simp [findC, kEq_self]
      · rw [if_neg hk] at h
        obtain ⟨q, hq, rfl⟩ := Option.map_eq_some_iff.1 h
        have := ih (upB_tail cLt hs) hq
        simp only [findC, e]
        simpa using this

theorem find_ins_other {l p : List (ByteArray × List (Int × ByteArray × Bool))} {x k : ByteArray} {v : Int × ByteArray × Bool} (hne : k ≠ x) (h : ins l x v = some p) : findC p k = findC l k := by
  have hx : kEq x k = false := kEq_ne hne.symm
  induction l generalizing p with
  | nil =>
    simp only [ins, Option.some.injEq] at h
    subst h; simp [findC, hx]
  | cons a r ih =>
    unfold ins at h
    by_cases e : kEq a.1 x = true
    · rw [if_pos e] at h
      by_cases hl : lastT a.2 < v.1
      · rw [if_pos hl] at h
        injection h with h
        subst h
        have ha : kEq a.1 k = false := by rw [kEq_iff.1 e]; exact hx
        simp [findC, ha]
      · rw [if_neg hl] at h; cases h
    · rw [if_neg e] at h
      by_cases hk : kLt x a.1 = true
      · rw [if_pos hk] at h
        injection h with h
        subst h
        simp [findC, hx]
      · rw [if_neg hk] at h
        obtain ⟨q, hq, rfl⟩ := Option.map_eq_some_iff.1 h
        simp only [findC]
        rw [ih hq]

theorem ins_none_of {l : List (ByteArray × List (Int × ByteArray × Bool))} {x : ByteArray} {v : Int × ByteArray × Bool} {vs : List (Int × ByteArray × Bool)} (hs : upB cLt l = true) (h : findC l x = some vs) (hl : ¬ lastT vs < v.1) : ins l x v = none := by
  induction l with
  | nil => simp [findC] at h
  | cons a r ih =>
    unfold findC at h
    unfold ins
    by_cases e : kEq a.1 x = true
    · rw [if_pos e] at h
      injection h with h
      subst h
      rw [if_pos e, if_neg hl]
    · rw [if_neg e] at h
      rw [if_neg e]
      have hm := findC_mem h
      have hlt := upB_head cLt cLt_trans hs _ hm
      have hk : kLt x a.1 = false := kLt_asymm hlt
      rw [hk]
      simp [ih (upB_tail cLt hs) h]

/-! ### Writes put into cells, one after another -/
def putAll : List (ByteArray × List (Int × ByteArray × Bool)) → List (ByteArray × ByteArray × Bool) → Int → Option (List (ByteArray × List (Int × ByteArray × Bool)))
  | l, [], _ => some l
  | l, w :: r, t => match ins l w.1 (t, w.2.1, w.2.2) with
    | some p => putAll p r t
    | none => none
def wLt (a b : ByteArray × ByteArray × Bool) : Bool := kLt a.1 b.1
theorem wLt_trans (a b c : ByteArray × ByteArray × Bool) (h1 : wLt a b = true) (h2 : wLt b c = true) : wLt a c = true := kLt_trans h1 h2
theorem putAll_up {l p : List (ByteArray × List (Int × ByteArray × Bool))} {ws : List (ByteArray × ByteArray × Bool)} {t : Int} (hs : upB cLt l = true) (h : putAll l ws t = some p) : upB cLt p = true := by
  induction ws generalizing l with
  | nil => simp only [putAll, Option.some.injEq] at h; subst h; exact hs
  | cons w r ih =>
    unfold putAll at h
    cases e : ins l w.1 (t, w.2.1, w.2.2) with
    | none => rw [e] at h; cases h
    | some q => rw [e] at h; exact ih (ins_up hs e) h
theorem putAll_other {l p : List (ByteArray × List (Int × ByteArray × Bool))} {ws : List (ByteArray × ByteArray × Bool)} {t : Int} {k : ByteArray} (hk : ∀ w ∈ ws, k ≠ w.1) (h : putAll l ws t = some p) : findC p k = findC l k := by
  induction ws generalizing l with
  | nil => simp only [putAll, Option.some.injEq] at h; subst h; rfl
  | cons w r ih =>
    unfold putAll at h
    cases e : ins l w.1 (t, w.2.1, w.2.2) with
    | none => rw [e] at h; cases h
    | some q =>
      rw [e] at h
      rw [ih (fun w hw => hk w (List.mem_cons_of_mem _ hw)) h, find_ins_other (hk w (by simp)) e]
theorem putAll_self {l p : List (ByteArray × List (Int × ByteArray × Bool))} {ws : List (ByteArray × ByteArray × Bool)} {t : Int} (hs : upB cLt l = true) (hw : upB wLt ws = true) (h : putAll l ws t = some p) :
    ∀ w ∈ ws, findC p w.1 = some ((findC l w.1).getD [] ++ [(t, w.2.1, w.2.2)]) := by
  induction ws generalizing l with
  | nil => simp
  | cons w r ih =>
    have hh := upB_head wLt wLt_trans hw
    unfold putAll at h
    cases e : ins l w.1 (t, w.2.1, w.2.2) with
    | none => rw [e] at h; cases h
    | some q =>
      rw [e] at h
      intro x hx
      rcases List.mem_cons.1 hx with rfl | hx
      · rw [putAll_other (fun y hy => kLt_ne (hh y hy)) h, find_ins_self hs e]
      · rw [ih (ins_up hs e) (upB_tail wLt hw) h x hx, find_ins_other (kLt_ne (hh x hx)).symm e]
/-- Writes come in only at a later time. -/
theorem putAll_again {l : List (ByteArray × List (Int × ByteArray × Bool))} {ws : List (ByteArray × ByteArray × Bool)} {t : Int} (hs : upB cLt l = true) (hne : ws ≠ []) (hl : ∀ w ∈ ws, ∃ vs, findC l w.1 = some vs ∧ ¬ lastT vs < t) : putAll l ws t = none := by
  cases ws with
  | nil => exact absurd rfl hne
  | cons w r =>
    obtain ⟨vs, h1, h2⟩ := hl w (by simp)
    unfold putAll
    rw [ins_none_of (v := (t, w.2.1, w.2.2)) hs h1 h2]

/-! ### What FnCells asks -/
theorem look_now {l p : List (ByteArray × List (Int × ByteArray × Bool))} {ws : List (ByteArray × ByteArray × Bool)} {t : Int} (hs : upB cLt l = true) (hw : upB wLt ws = true) (h : putAll l ws t = some p) (w : ByteArray × ByteArray × Bool) (hm : w ∈ ws) :
    lookV ((findC p w.1).getD []) t = (w.2.1, !w.2.2) ∧ lastT ((findC p w.1).getD []) = t ∧ lookV ((findC p w.1).getD []) (t - 1) = lookV ((findC l w.1).getD []) (t - 1) := by
  rw [putAll_self hs hw h w hm]
  simp only [Option.getD_some]
  refine ⟨?_, lastT_snoc _ _, ?_⟩
  · unfold lookV
    rw [verAt_snoc_le _ _ _ (by simp)]
  · unfold lookV
    rw [verAt_snoc_gt _ _ _ (by simp only; omega)]
theorem put_again {l p : List (ByteArray × List (Int × ByteArray × Bool))} {ws : List (ByteArray × ByteArray × Bool)} {t : Int} (hs : upB cLt l = true) (hw : upB wLt ws = true) (h : putAll l ws t = some p) (hne : ws ≠ []) : putAll p ws t = none :=
  putAll_again (putAll_up hs h) hne fun w hm => ⟨_, putAll_self hs hw h w hm, by rw [lastT_snoc]; exact Int.lt_irrefl _⟩

/-! ### Trimming -/
def trimV (f : Int) : List (Int × ByteArray × Bool) → List (Int × ByteArray × Bool)
  | [] => []
  | v :: r =>
    if decide (f < v.1) || (!(match r with | u :: _ => decide (u.1 ≤ f) | [] => false) && !v.2.2) then v :: trimV f r else trimV f r
theorem trimV_gt (f : Int) (vs : List (Int × ByteArray × Bool)) (h : ∀ v ∈ vs, f < v.1) : trimV f vs = vs := by
  induction vs with
  | nil => rfl
  | cons v r ih =>
    unfold trimV
    rw [decide_eq_true (h v (by simp)), ih fun u hu => h u (List.mem_cons_of_mem _ hu)]
    rfl
/-- What follows a version that lies at or before the floor: another such one, or only later ones. -/
theorem trimV_cons (f : Int) (v : Int × ByteArray × Bool) (r : List (Int × ByteArray × Bool)) (hs : upB tLt (v :: r) = true) :
    (f < v.1 ∧ trimV f (v :: r) = v :: r) ∨ (v.1 ≤ f ∧ (∃ u t, r = u :: t ∧ u.1 ≤ f) ∧ trimV f (v :: r) = trimV f r) ∨
      (v.1 ≤ f ∧ (∀ u ∈ r, f < u.1) ∧ trimV f (v :: r) = if v.2.2 then r else v :: r) := by
  have hh := upB_head tLt tLt_trans hs
  by_cases h : f < v.1
  · refine .inl ⟨h, trimV_gt f _ fun u hu => ?_⟩
    rcases List.mem_cons.1 hu with rfl | hu
    · exact h
    · have := hh u hu
      simp only [tLt, decide_eq_true_eq] at this
      omega
  · right
    have hd : decide (f < v.1) = false := decide_eq_false h
    cases r with
    | nil =>
      refine .inr ⟨by omega, by simp, ?_⟩
      unfold trimV
      rw [hd]
      cases v.2.2 <;> simp [trimV]
    | cons u t =>
      by_cases hu : u.1 ≤ f
      · refine .inl ⟨by omega, ⟨u, t, rfl, hu⟩, ?_⟩
        rw [trimV]
        simp [hd, hu]
      · have hall : ∀ x ∈ u :: t, f < x.1 := by
          intro x hx
          rcases List.mem_cons.1 hx with rfl | hx
          · omega
          · have := upB_head tLt tLt_trans (upB_tail tLt hs) x hx
            simp only [tLt, decide_eq_true_eq] at this
            omega
        refine .inr ⟨by omega, hall, ?_⟩
        rw [trimV, trimV_gt f _ hall]
        cases e : v.2.2 <;> simp [hd, hu]
theorem trimV_suffix (f : Int) (vs : List (Int × ByteArray × Bool)) (hs : upB tLt vs = true) : ∃ pre, vs = pre ++ trimV f vs := by
  induction vs with
  | nil => exact ⟨[], rfl⟩
  | cons v r ih =>
    rcases trimV_cons f v r hs with ⟨_, h⟩ | ⟨_, _, h⟩ | ⟨_, _, h⟩
    · exact ⟨[], by rw [h]; rfl⟩
    · obtain ⟨pre, hp⟩ := ih (upB_tail tLt hs)
      exact ⟨v :: pre, by rw [h, List.cons_append, ← hp]⟩
    · cases e : v.2.2 with
      | true => rw [e] at h; exact ⟨[v], by rw [h]; rfl⟩
      | false => rw [e] at h; exact ⟨[], by rw [h]; rfl⟩
theorem trimV_mem (f : Int) (vs : List (Int × ByteArray × Bool)) (hs : upB tLt vs = true) : ∀ v ∈ trimV f vs, v ∈ vs := by
  obtain ⟨pre, h⟩ := trimV_suffix f vs hs
  intro v hv
  rw [h]
  exact List.mem_append_right _ hv
theorem trimV_len (f : Int) (vs : List (Int × ByteArray × Bool)) (hs : upB tLt vs = true) : (trimV f vs).length ≤ vs.length := by
  obtain ⟨pre, h⟩ := trimV_suffix f vs hs
  have := congrArg List.length h
  rw [List.length_append] at this
  omega
theorem upB_drop {α : Type} (lt : α → α → Bool) (pre l : List α) (h : upB lt (pre ++ l) = true) : upB lt l = true := by
  induction pre with
  | nil => exact h
  | cons a p ih => exact ih (upB_tail lt h)
theorem trimV_up (f : Int) (vs : List (Int × ByteArray × Bool)) (hs : upB tLt vs = true) : upB tLt (trimV f vs) = true := by
  obtain ⟨pre, h⟩ := trimV_suffix f vs hs
  rw [h] at hs
  exact upB_drop tLt pre _ hs
theorem trimV_trimV (f : Int) (vs : List (Int × ByteArray × Bool)) (hs : upB tLt vs = true) : trimV f (trimV f vs) = trimV f vs := by
  induction vs with
  | nil => rfl
  | cons v r ih =>
    rcases trimV_cons f v r hs with ⟨_, h⟩ | ⟨_, _, h⟩ | ⟨h1, h2, h⟩
    · rw [h, h]
    · rw [h, ih (upB_tail tLt hs)]
    · rw [h]
      cases e : v.2.2 with
      | true => simp only [if_true]; exact trimV_gt f r h2
      | false =>
        rw [e] at h
        simpa using h
/-- A look at or after the floor is the same before and after trimming. -/
theorem trimV_look (f t : Int) (hft : f ≤ t) (vs : List (Int × ByteArray × Bool)) (hs : upB tLt vs = true) (hg : ∀ v ∈ vs, v.2.2 = true → v.2.1 = ByteArray.empty) : lookV (trimV f vs) t = lookV vs t := by
  induction vs with
  | nil => rfl
  | cons v r ih =>
    rcases trimV_cons f v r hs with ⟨_, h⟩ | ⟨h1, ⟨u, x, rfl, hu⟩, h⟩ | ⟨h1, h2, h⟩
    · rw [h]
    · rw [h, ih (upB_tail tLt hs) fun v hv => hg v (List.mem_cons_of_mem _ hv)]
      have e1 : decide (v.1 ≤ t) = true := decide_eq_true (by omega)
      have e2 : decide (u.1 ≤ t) = true := decide_eq_true (by omega)
      have f1 : (v :: u :: x).filter (fun v => decide (v.1 ≤ t)) = v :: (u :: x).filter (fun v => decide (v.1 ≤ t)) := List.filter_cons_of_pos e1
      have f2 : (u :: x).filter (fun v => decide (v.1 ≤ t)) = u :: x.filter (fun v => decide (v.1 ≤ t)) := List.filter_cons_of_pos e2
      unfold lookV verAt
      rw [f1, f2, List.getLast?_cons_cons]
    · rw [h]
      cases e : v.2.2 with
      | false => rfl
      | true =>
        simp only [if_true]
        have e1 : decide (v.1 ≤ t) = true := decide_eq_true (by omega)
        unfold lookV verAt
        rw [List.filter_cons_of_pos (by exact e1)]
        cases hr : r.filter fun v => decide (v.1 ≤ t) with
        | nil => simp [e, hg v (by simp) e]
        | cons a b => rfl

def trimC (f : Int) (l : List (ByteArray × List (Int × ByteArray × Bool))) : List (ByteArray × List (Int × ByteArray × Bool)) :=
  l.filterMap fun c => match trimV f c.2 with | [] => none | v :: r => some (c.1, v :: r)
/-- A cell that trims to itself stays; the others go or lose versions. -/
theorem trimC_cons (f : Int) (c : ByteArray × List (Int × ByteArray × Bool)) (l : List (ByteArray × List (Int × ByteArray × Bool))) :
    trimC f (c :: l) = if (trimV f c.2).length = 0 then trimC f l else (c.1, trimV f c.2) :: trimC f l := by
  unfold trimC
  rw [List.filterMap_cons]
  cases h : trimV f c.2 with
  | nil => simp
  | cons v r => simp
theorem trimC_mem (f : Int) (l : List (ByteArray × List (Int × ByteArray × Bool))) : ∀ c ∈ trimC f l, ∃ d ∈ l, c = (d.1, trimV f d.2) ∧ 0 < (trimV f d.2).length := by
  induction l with
  | nil => simp [trimC]
  | cons a l ih =>
    rw [trimC_cons]
    intro c hc
    by_cases h : (trimV f a.2).length = 0
    · rw [if_pos h] at hc
      obtain ⟨d, hd, h1⟩ := ih c hc
      exact ⟨d, List.mem_cons_of_mem _ hd, h1⟩
    · rw [if_neg h] at hc
      rcases List.mem_cons.1 hc with rfl | hc
      · exact ⟨a, by simp, rfl, by omega⟩
      · obtain ⟨d, hd, h1⟩ := ih c hc
        exact ⟨d, List.mem_cons_of_mem _ hd, h1⟩
theorem trimC_len (f : Int) (l : List (ByteArray × List (Int × ByteArray × Bool))) : (trimC f l).length ≤ l.length := List.length_filterMap_le _ _
theorem trimC_up (f : Int) (l : List (ByteArray × List (Int × ByteArray × Bool))) (hs : upB cLt l = true) : upB cLt (trimC f l) = true := by
  induction l with
  | nil => rfl
  | cons a l ih =>
    rw [trimC_cons]
    have ht := ih (upB_tail cLt hs)
    by_cases h : (trimV f a.2).length = 0
    · rw [if_pos h]; exact ht
    · rw [if_neg h]
      refine upB_cons (fun c hc => ?_) ht
      obtain ⟨d, hd, rfl, _⟩ := trimC_mem f l c hc
      exact upB_head cLt cLt_trans hs d hd
theorem trimC_trimC (f : Int) (l : List (ByteArray × List (Int × ByteArray × Bool))) (hv : ∀ c ∈ l, upB tLt c.2 = true) : trimC f (trimC f l) = trimC f l := by
  induction l with
  | nil => rfl
  | cons a l ih =>
    rw [trimC_cons]
    have ht := ih fun c hc => hv c (List.mem_cons_of_mem _ hc)
    by_cases h : (trimV f a.2).length = 0
    · rw [if_pos h]; exact ht
    · rw [if_neg h, trimC_cons, ht]
      simp only [trimV_trimV f a.2 (hv a (by simp))]
      rw [if_neg h]
/-- The writes that a snapshot shows. -/
def allC (l : List (ByteArray × List (Int × ByteArray × Bool))) (t : Int) : List (ByteArray × ByteArray × Bool) :=
  l.filterMap fun c => if (lookV c.2 t).2 then some (c.1, (lookV c.2 t).1, false) else none
theorem allC_mem {l : List (ByteArray × List (Int × ByteArray × Bool))} {t : Int} (hs : upB cLt l = true) {w : ByteArray × ByteArray × Bool} (h : w ∈ allC l t) :
    lookV ((findC l w.1).getD []) t = (w.2.1, true) ∧ w.2.2 = false ∧ ∃ c ∈ l, c.1 = w.1 := by
  unfold allC at h
  obtain ⟨c, hc, h1⟩ := List.mem_filterMap.1 h
  by_cases hk : (lookV c.2 t).2 = true
  · rw [if_pos hk] at h1
    injection h1 with h1
    subst h1
    rw [findC_of_mem (vs := c.2) hs hc]
    refine ⟨?_, rfl, c, hc, rfl⟩
    simp only [Option.getD_some]
    rw [← hk]
  · rw [if_neg hk] at h1; cases h1
theorem lookV_nil (t : Int) : lookV [] t = (ByteArray.empty, false) := rfl
theorem allC_trimC (f t : Int) (hft : f ≤ t) (l : List (ByteArray × List (Int × ByteArray × Bool))) (hv : ∀ c ∈ l, upB tLt c.2 = true ∧ ∀ v ∈ c.2, v.2.2 = true → v.2.1 = ByteArray.empty) : allC (trimC f l) t = allC l t := by
  induction l with
  | nil => rfl
  | cons a l ih =>
    have h1 := trimV_look f t hft a.2 (hv a (by simp)).1 (hv a (by simp)).2
    have ht := ih fun c hc => hv c (List.mem_cons_of_mem _ hc)
    unfold allC at ht ⊢
    rw [trimC_cons, List.filterMap_cons]
    by_cases h : (trimV f a.2).length = 0
    · rw [if_pos h, ht]
      have he : trimV f a.2 = [] := List.length_eq_zero_iff.1 h
      rw [he, lookV_nil] at h1
      rw [← h1]
      rfl
    · rw [if_neg h, List.filterMap_cons, ht, h1]

/-! ### What loops over cells and versions keep -/
/-- Is version k kept? -/
def keepV (f : Int) (vs : List (Int × ByteArray × Bool)) (k : Nat) : Bool :=
  match vs[k]? with
  | some v => decide (f < v.1) || (!(match vs[k + 1]? with | some u => decide (u.1 ≤ f) | none => false) && !v.2.2)
  | none => false
/-- The versions kept of the first k. -/
def accV (f : Int) (vs : List (Int × ByteArray × Bool)) : Nat → List (Int × ByteArray × Bool)
  | 0 => []
  | k + 1 => accV f vs k ++ (if keepV f vs k then (match vs[k]? with | some v => [v] | none => []) else [])
theorem keepV_cons (f : Int) (v : Int × ByteArray × Bool) (r : List (Int × ByteArray × Bool)) (k : Nat) : keepV f (v :: r) (k + 1) = keepV f r k := rfl
theorem accV_cons (f : Int) (v : Int × ByteArray × Bool) (r : List (Int × ByteArray × Bool)) (k : Nat) : accV f (v :: r) (k + 1) = (if keepV f (v :: r) 0 then [v] else []) ++ accV f r k := by
  induction k with
  | zero => simp [accV]
  | succ k ih =>
    rw [accV, ih, accV, keepV_cons, List.append_assoc]
    rfl
theorem trimV_step (f : Int) (v : Int × ByteArray × Bool) (r : List (Int × ByteArray × Bool)) : trimV f (v :: r) = if keepV f (v :: r) 0 then v :: trimV f r else trimV f r := by
  cases r <;> rfl
theorem accV_all (f : Int) (vs : List (Int × ByteArray × Bool)) : accV f vs vs.length = trimV f vs := by
  induction vs with
  | nil => rfl
  | cons v r ih =>
    rw [List.length_cons, accV_cons, ih, trimV_step]
    split <;> rfl
theorem accV_succ (f : Int) (vs : List (Int × ByteArray × Bool)) (k : Nat) (h : k < vs.length) : accV f vs (k + 1) = accV f vs k ++ (if keepV f vs k then [vs[k]] else []) := by
  rw [accV, List.getElem?_eq_getElem h]
theorem keepV_at (f : Int) (vs : List (Int × ByteArray × Bool)) (k : Nat) (h : k + 1 < vs.length) : keepV f vs k = (decide (f < vs[k].1) || (!decide (vs[k + 1].1 ≤ f) && !vs[k].2.2)) := by
  unfold keepV
  rw [List.getElem?_eq_getElem (show k < vs.length by omega), List.getElem?_eq_getElem h]
theorem keepV_last (f : Int) (vs : List (Int × ByteArray × Bool)) (k : Nat) (h : k + 1 = vs.length) : keepV f vs k = (decide (f < (vs[k]'(by omega)).1) || !(vs[k]'(by omega)).2.2) := by
  unfold keepV
  rw [List.getElem?_eq_getElem (show k < vs.length by omega), List.getElem?_eq_none (by omega)]
  simp

/-- The cell of a key by its place. -/
theorem findC_at {l : List (ByteArray × List (Int × ByteArray × Bool))} {key : ByteArray} {k : Nat} (h : k < l.length) (hk : l[k].1 = key) (hb : ∀ j (hj : j < k), (l[j]'(by omega)).1 ≠ key) : findC l key = some l[k].2 := by
  induction l generalizing k with
  | nil => simp at h
  | cons c r ih =>
    unfold findC
    cases k with
    | zero =>
      simp only [List.getElem_cons_zero] at hk ⊢
      rw [if_pos (kEq_iff.2 hk)]
    | succ k =>
      have h0 := hb 0 (by omega)
      simp only [List.getElem_cons_zero] at h0
      rw [if_neg (by rw [kEq_ne h0]; simp)]
      simp only [List.getElem_cons_succ] at hk ⊢
      exact ih (by simpa using h) hk fun j hj => by have := hb (j + 1) (by omega); simpa using this
theorem findC_no {l : List (ByteArray × List (Int × ByteArray × Bool))} {key : ByteArray} (hb : ∀ j (hj : j < l.length), l[j].1 ≠ key) : findC l key = none := by
  induction l with
  | nil => rfl
  | cons c r ih =>
    unfold findC
    have h0 := hb 0 (by simp)
    simp only [List.getElem_cons_zero] at h0
    rw [if_neg (by rw [kEq_ne h0]; simp)]
    exact ih fun j hj => by have := hb (j + 1) (by simpa using hj); simpa using this

/-- A write put in by its place: a new cell. -/
theorem ins_new {l : List (ByteArray × List (Int × ByteArray × Bool))} {x : ByteArray} {v : Int × ByteArray × Bool} (k : Nat) (h1 : ∀ c ∈ l.take k, kLt c.1 x = true) (h2 : ∀ c ∈ l.drop k, kLt x c.1 = true) : ins l x v = some (l.take k ++ (x, [v]) :: l.drop k) := by
  induction l generalizing k with
  | nil => simp [ins]
  | cons c r ih =>
    unfold ins
    cases k with
    | zero =>
      have hc := h2 c (by simp)
      rw [if_neg (by rw [kEq_ne (kLt_ne hc).symm]; simp), if_pos hc]
      rfl
    | succ k =>
      have hc := h1 c (by simp)
      rw [if_neg (by rw [kEq_ne (kLt_ne hc)]; simp), if_neg (by rw [kLt_asymm hc]; simp), ih k (fun d hd => h1 d (by simp [hd])) (fun d hd => h2 d (by simpa using hd))]
      rfl
/-- .. and a version more of a cell that is there. -/
theorem ins_old {l : List (ByteArray × List (Int × ByteArray × Bool))} {x : ByteArray} {v : Int × ByteArray × Bool} (hs : upB cLt l = true) (k : Nat) (h : k < l.length) (hk : l[k].1 = x) :
    ins l x v = if lastT l[k].2 < v.1 then some (l.set k (x, l[k].2 ++ [v])) else none := by
  induction l generalizing k with
  | nil => simp at h
  | cons c r ih =>
    unfold ins
    cases k with
    | zero =>
      simp only [List.getElem_cons_zero] at hk ⊢
      rw [if_pos (kEq_iff.2 hk), List.set_cons_zero, hk]
    | succ k =>
      simp only [List.getElem_cons_succ] at hk ⊢
      have hkr : k < r.length := by simpa using h
      have hlt := upB_head cLt cLt_trans hs r[k] (List.getElem_mem _)
      unfold cLt at hlt
      rw [hk] at hlt
      rw [if_neg (by rw [kEq_ne (kLt_ne hlt)]; simp), if_neg (by rw [kLt_asymm hlt]; simp), ih (upB_tail cLt hs) k (by simpa using h) hk]
      by_cases hl : lastT r[k].2 < v.1
      · rw [if_pos hl, if_pos hl]
        rfl
      · rw [if_neg hl, if_neg hl]
        rfl
/-- Neighbours in order are in order at any distance. -/
theorem up_lt {α : Type} (lt : α → α → Bool) (ht : ∀ a b c, lt a b = true → lt b c = true → lt a c = true) {l : List α} (hs : upB lt l = true) {i j : Nat} (hij : i < j) (hj : j < l.length) : lt (l[i]'(by omega)) l[j] = true :=
  List.pairwise_iff_getElem.1 ((upB_iff lt ht l).1 hs) i j (by omega) hj hij

/-! ### Validity (kB, vB: which keys and values are valid) -/
section
variable (kB vB : ByteArray → Bool)
def verB (v : Int × ByteArray × Bool) : Bool := decide (1 ≤ v.1) && (decide (v.1 ≤ 100000) && (vB v.2.1 && (!v.2.2 || kEq v.2.1 ByteArray.empty)))
def cellB (c : ByteArray × List (Int × ByteArray × Bool)) : Bool := kB c.1 && (c.2.all (verB vB) && (upB tLt c.2 && (decide (1 ≤ c.2.length) && decide (c.2.length ≤ 16))))
def cellsB (l : List (ByteArray × List (Int × ByteArray × Bool))) : Bool := l.all (cellB kB vB) && (upB cLt l && decide (l.length ≤ 24))
def writeB (w : ByteArray × ByteArray × Bool) : Bool := kB w.1 && (vB w.2.1 && (!w.2.2 || kEq w.2.1 ByteArray.empty))
def writesB (ws : List (ByteArray × ByteArray × Bool)) : Bool := ws.all (writeB kB vB) && (upB wLt ws && decide (ws.length ≤ 24))
variable {kB vB}
theorem cellB_of {c : ByteArray × List (Int × ByteArray × Bool)} (h : cellB kB vB c = true) : kB c.1 = true ∧ (∀ v ∈ c.2, verB vB v = true) ∧ upB tLt c.2 = true ∧ 1 ≤ c.2.length ∧ c.2.length ≤ 16 := by
  simp only [cellB, Bool.and_eq_true, List.all_eq_true, decide_eq_true_eq] at h
  exact ⟨h.1, h.2.1, h.2.2.1, h.2.2.2.1, h.2.2.2.2⟩
theorem cellB_mk {c : ByteArray × List (Int × ByteArray × Bool)} (h : kB c.1 = true ∧ (∀ v ∈ c.2, verB vB v = true) ∧ upB tLt c.2 = true ∧ 1 ≤ c.2.length ∧ c.2.length ≤ 16) : cellB kB vB c = true := by
  simp only [cellB, Bool.and_eq_true, List.all_eq_true, decide_eq_true_eq]
  exact ⟨h.1, h.2.1, h.2.2.1, h.2.2.2.1, h.2.2.2.2⟩
theorem cellsB_of {l : List (ByteArray × List (Int × ByteArray × Bool))} (h : cellsB kB vB l = true) : (∀ c ∈ l, cellB kB vB c = true) ∧ upB cLt l = true ∧ l.length ≤ 24 := by
  simp only [cellsB, Bool.and_eq_true, List.all_eq_true, decide_eq_true_eq] at h
  exact ⟨h.1, h.2.1, h.2.2⟩
theorem cellsB_mk {l : List (ByteArray × List (Int × ByteArray × Bool))} (h : (∀ c ∈ l, cellB kB vB c = true) ∧ upB cLt l = true ∧ l.length ≤ 24) : cellsB kB vB l = true := by
  simp only [cellsB, Bool.and_eq_true, List.all_eq_true, decide_eq_true_eq]
  exact ⟨h.1, h.2.1, h.2.2⟩
theorem writesB_of {ws : List (ByteArray × ByteArray × Bool)} (h : writesB kB vB ws = true) : (∀ w ∈ ws, writeB kB vB w = true) ∧ upB wLt ws = true ∧ ws.length ≤ 24 := by
  simp only [writesB, Bool.and_eq_true, List.all_eq_true, decide_eq_true_eq] at h
  exact ⟨h.1, h.2.1, h.2.2⟩
theorem verB_gone {v : Int × ByteArray × Bool} (h : verB vB v = true) (hg : v.2.2 = true) : v.2.1 = ByteArray.empty := by
  simp only [verB, Bool.and_eq_true, Bool.or_eq_true] at h
  rcases h.2.2.2 with h1 | h1
  · rw [hg] at h1; cases h1
  · exact kEq_iff.1 h1
theorem writeB_gone {w : ByteArray × ByteArray × Bool} (h : writeB kB vB w = true) (hg : w.2.2 = true) : w.2.1 = ByteArray.empty := by
  simp only [writeB, Bool.and_eq_true, Bool.or_eq_true] at h
  rcases h.2.2 with h1 | h1
  · rw [hg] at h1; cases h1
  · exact kEq_iff.1 h1
/-- What trimming leaves is valid. -/
theorem trim_good (f : Int) {l : List (ByteArray × List (Int × ByteArray × Bool))} (h : cellsB kB vB l = true) : cellsB kB vB (trimC f l) = true := by
  obtain ⟨h1, h2, h3⟩ := cellsB_of h
  refine cellsB_mk ⟨fun c hc => ?_, trimC_up f l h2, by have := trimC_len f l; omega⟩
  obtain ⟨d, hd, rfl, hp⟩ := trimC_mem f l c hc
  obtain ⟨g1, g2, g3, g4, g5⟩ := cellB_of (h1 d hd)
  exact cellB_mk ⟨g1, fun v hv => g2 v (trimV_mem f d.2 g3 v hv), trimV_up f d.2 g3, hp, by have := trimV_len f d.2 g3; simp only; omega⟩
theorem trim_again (f : Int) {l : List (ByteArray × List (Int × ByteArray × Bool))} (h : cellsB kB vB l = true) : trimC f (trimC f l) = trimC f l :=
  trimC_trimC f l fun c hc => (cellB_of ((cellsB_of h).1 c hc)).2.2.1
theorem trim_all (f t : Int) (hft : f ≤ t) {l : List (ByteArray × List (Int × ByteArray × Bool))} (h : cellsB kB vB l = true) : allC (trimC f l) t = allC l t :=
  allC_trimC f t hft l fun c hc => by
    obtain ⟨g1, g2, g3, g4, g5⟩ := cellB_of ((cellsB_of h).1 c hc)
    exact ⟨g3, fun v hv hg => verB_gone (g2 v hv) hg⟩
end
end Go.Proofs.Ytpppgihoekfmoaa.CM
