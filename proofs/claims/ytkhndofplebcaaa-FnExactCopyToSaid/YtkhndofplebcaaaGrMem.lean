/-
  Entries, replicas and groups in memory: what reads as a list; what a call owns.
-/
import Derived.Test.YtkhndofplebcaaaGrK
import Derived.Test.YtkhndofplebcaaaRecE
namespace Go.Proofs.Ytkhndofplebcaaa.Gr
open Go.RowKit CM
set_option linter.unusedVariables false

/-- An entry as data. -/
structure ED where
  tm : Int
  k : Int
  t : Int
  x : Int
  l : Int
  y : Bool
  rs : List ByteArray
  ws : List (ByteArray × ByteArray × Bool)
/-- An entry in memory: its data, where its slices lie, and the bounds of its own blocks. -/
structure EH where
  d : ED
  Ar : Option Addr
  cr : Nat
  Aw : Option Addr
  cw : Nat
  lo : Nat
  m : Nat
  hi : Nat
def enCs (e : EH) : List Value := [.int .i64 e.d.tm, .int .i64 e.d.k, .int .i64 e.d.t, .int .i64 e.d.x, .int .i64 e.d.l, .slice e.Ar e.d.rs.length e.cr, .slice e.Aw e.d.ws.length e.cw, .bool e.d.y]
def EnR (w : World) (B : Nat) (e : EH) : Prop := StrsB w B e.Ar e.d.rs ∧ WritesB w B e.Aw e.d.ws
def EnO (w : World) (e : EH) : Prop := e.lo ≤ e.m ∧ e.m ≤ e.hi ∧ OwnS w e.lo e.m e.Ar e.cr e.d.rs ∧ OwnW w e.m e.hi e.Aw e.cw e.d.ws
def KE : Kd EH where
  t := 35
  sz := 8
  cs := enCs
  len := fun _ => rfl
  rd := EnR
  ow := EnO
  lo := EH.lo
  hi := EH.hi
  rd_below := fun h hb => ⟨h.1.below hb, h.2.below hb⟩
  rd_mono := fun h hb => ⟨h.1.mono hb, h.2.mono hb⟩
  ow_keep := fun h hk => ⟨h.1, h.2.1, Own.keep h.2.2.1 (hk.wider (Nat.le_refl _) h.2.1), Own.keep h.2.2.2 (hk.wider h.1 (Nat.le_refl _))⟩
  ow_le := fun h => Nat.le_trans h.1 h.2.1
  ow_rd := fun h => ⟨h.2.2.1.strs.mono h.2.1, h.2.2.2.writes⟩
/-- A replica as data. -/
structure RD where
  up : Bool
  su : Int
  log : List ED
/-- A replica in memory. -/
structure RH where
  up : Bool
  su : Int
  A : Option Addr
  c : Nat
  es : List EH
  lo : Nat
  hi : Nat
def rdat (r : RH) : RD := ⟨r.up, r.su, r.es.map EH.d⟩
def rpCs (r : RH) : List Value := [.bool r.up, .slice r.A r.es.length r.c, .int .i64 r.su]
def KR : Kd RH where
  t := 91
  sz := 3
  cs := rpCs
  len := fun _ => rfl
  rd := fun w B r => RowsB KE w B r.A r.es
  ow := fun w r => r.lo ≤ r.hi ∧ OwnK KE w r.lo r.hi r.A r.c r.es
  lo := RH.lo
  hi := RH.hi
  rd_below := fun h hb => h.below hb
  rd_mono := fun h hb => h.mono hb
  ow_keep := fun h hk => ⟨h.1, h.2.keep hk⟩
  ow_le := fun h => h.1
  ow_rd := fun h => h.2.rows
/-- The cells of an entry. -/
theorem en_get {w : World} {B : Nat} {A : Option Addr} {xs : List EH} (h : RowsB KE w B A xs) (hn : 0 < xs.length) : ∃ b off, A = some ⟨b, off, none⟩ ∧ b < B ∧ ∀ k (h : k < xs.length), w.cell? ⟨b, off + k * 8, none⟩ = some (.int .i64 xs[k].d.tm) ∧ w.cell? ⟨b, off + k * 8 + 1, none⟩ = some (.int .i64 xs[k].d.k) ∧ w.cell? ⟨b, off + k * 8 + 2, none⟩ = some (.int .i64 xs[k].d.t) ∧ w.cell? ⟨b, off + k * 8 + 3, none⟩ = some (.int .i64 xs[k].d.x) ∧ w.cell? ⟨b, off + k * 8 + 4, none⟩ = some (.int .i64 xs[k].d.l) ∧ w.cell? ⟨b, off + k * 8 + 5, none⟩ = some (.slice xs[k].Ar xs[k].d.rs.length xs[k].cr) ∧ w.cell? ⟨b, off + k * 8 + 6, none⟩ = some (.slice xs[k].Aw xs[k].d.ws.length xs[k].cw) ∧ w.cell? ⟨b, off + k * 8 + 7, none⟩ = some (.bool xs[k].d.y) := by
  obtain ⟨b, off, hA, hlt, hc⟩ := h.get hn
  exact ⟨b, off, hA, hlt, fun k hk => ⟨hc k hk 0 (by decide), hc k hk 1 (by decide), hc k hk 2 (by decide), hc k hk 3 (by decide), hc k hk 4 (by decide), hc k hk 5 (by decide), hc k hk 6 (by decide), hc k hk 7 (by decide)⟩⟩
theorem rp_get {w : World} {B : Nat} {A : Option Addr} {xs : List RH} (h : RowsB KR w B A xs) (hn : 0 < xs.length) : ∃ b off, A = some ⟨b, off, none⟩ ∧ b < B ∧ ∀ k (h : k < xs.length), w.cell? ⟨b, off + k * 3, none⟩ = some (.bool xs[k].up) ∧ w.cell? ⟨b, off + k * 3 + 1, none⟩ = some (.slice xs[k].A xs[k].es.length xs[k].c) ∧ w.cell? ⟨b, off + k * 3 + 2, none⟩ = some (.int .i64 xs[k].su) := by
  obtain ⟨b, off, hA, hlt, hc⟩ := h.get hn
  exact ⟨b, off, hA, hlt, fun k hk => ⟨hc k hk 0 (by decide), hc k hk 1 (by decide), hc k hk 2 (by decide)⟩⟩
theorem infoEnt : (Try.prog.info? 35).map (fun i => (i.zero, i.size, i.bytes)) = some (some (.agg #[.int .i64 0, .int .i64 0, .int .i64 0, .int .i64 0, .int .i64 0, .slice none 0 0, .slice none 0 0, .bool false]), 8, 96) := by kernel_rfl
theorem infoRep : (Try.prog.info? 91).map (fun i => (i.zero, i.size, i.bytes)) = some (some (.agg #[.bool false, .slice none 0 0, .int .i64 0]), 3, 40) := by kernel_rfl

theorem mid_wide {lo hi lo' hi' : Nat} {w w' : World} (h : Mid lo hi w w') (hb : lo' ≤ lo ∧ hi ≤ hi') : Mid lo' hi' w w' := ⟨h.1, h.2.1, h.2.2.1, h.2.2.2.1, fun k hk hr => h.2.2.2.2 k hk (by omega)⟩

/-! ### Sizes -/
def szE (e : EH) : Nat := szSs e.d.rs + szWs e.d.ws
def szR (r : RH) : Nat := szAll szE r.es
def EMax (e : EH) : Prop := SMax e.d.rs ∧ WMax e.d.ws
def LgMax (es : List EH) : Prop := es.length ≤ maxLen ∧ ∀ e ∈ es, EMax e
def RpMax (xs : List RH) : Prop := xs.length ≤ maxLen ∧ ∀ r ∈ xs, LgMax r.es
def ESmall (d : ED) : Prop := SSmall d.rs ∧ WSmall d.ws
def LgSmall (l : List ED) : Prop := l.length ≤ 1048576 ∧ ∀ d ∈ l, ESmall d
def RpSmall (l : List RD) : Prop := l.length ≤ 1048576 ∧ ∀ d ∈ l, LgSmall d.log
theorem esmall_of {e : EH} (h : szE e ≤ 1048576) : ESmall e.d := by unfold szE at h; exact ⟨ssmall_of (by omega), wsmall_of (by omega)⟩
theorem lgsmall_of {es : List EH} (h : szAll szE es ≤ 1048576) : LgSmall (es.map EH.d) :=
  ⟨by have := szAll_len szE es; simp; omega, fun d hd => by obtain ⟨e, he, rfl⟩ := List.mem_map.1 hd; exact esmall_of (Nat.le_trans (szAll_mem szE es e he) h)⟩
theorem rpsmall_of {xs : List RH} (h : szAll szR xs ≤ 1048576) : RpSmall (xs.map rdat) :=
  ⟨by have := szAll_len szR xs; simp; omega, fun d hd => by obtain ⟨r, hr, rfl⟩ := List.mem_map.1 hd; exact lgsmall_of (Nat.le_trans (szAll_mem szR xs r hr) h)⟩

end Go.Proofs.Ytkhndofplebcaaa.Gr
