/-
  What the walks of the exact laws over polls share.
-/
import Derived.Test.YtojplmjoipjabaaPoOwn
import Derived.Test.YtojplmjoipjabaaPoSz
import Derived.Test.YtojplmjoipjabaaPoEq
namespace Go.Proofs.Ytojplmjoipjabaa.Po
open Go.RowKit Nt
set_option linter.unusedVariables false
set_option linter.unusedSimpArgs false

theorem small_of {hs : List ((Bool × Int × Int × Bool) × Option Addr × Nat × List Int)} {is : List Int} {ls : List (Int × Int × Int × ByteArray)} {ws : List (Int × Int)} {n1 n3 : Nat} (h1 : is.length = n1) (h3 : ws.length = n3) (h : szP hs n1 ls n3 ≤ 1048576) : PollS hs is ls ws := by
  unfold szP at h
  exact ⟨vtsmall_of (by omega), by omega, lsmall_of (by omega), by omega⟩
theorem pollS_dats {gs hs : List ((Bool × Int × Int × Bool) × Option Addr × Nat × List Int)} {is : List Int} {ls : List (Int × Int × Int × ByteArray)} {ws : List (Int × Int)} (h : gs.map vdat = hs.map vdat) (hs' : PollS hs is ls ws) : PollS gs is ls ws := ⟨vsmall_dats h hs'.1, hs'.2⟩
theorem len_dats {gs : List ((Bool × Int × Int × Bool) × Option Addr × Nat × List Int)} {vs : List ((Bool × Int × Int × Bool) × List Int)} {n : Nat} (h : gs.map vdat = vs) (hn : vs.length = n) : gs.length = n := by rw [← hn, ← h, List.length_map]
theorem smallS {gs : List ((Bool × Int × Int × Bool) × Option Addr × Nat × List Int)} {vs : List ((Bool × Int × Int × Bool) × List Int)} {is : List Int} {ls : List (Int × Int × Int × ByteArray)} {ws : List (Int × Int)} (h : gs.map vdat = vs) (hv : ∀ hs : List ((Bool × Int × Int × Bool) × Option Addr × Nat × List Int), hs.map vdat = vs → PollS hs is ls ws) : PollS gs is ls ws := hv gs h
theorem eqPoll_own {w : World} {lo hi lo' hi' n n1 n2 n3 c c1 c2 c3 d d1 d2 d3 : Nat} {A A1 A2 A3 C C1 C2 C3 : Option Addr} {gs gs' : List ((Bool × Int × Int × Bool) × Option Addr × Nat × List Int)} {vs : List ((Bool × Int × Int × Bool) × List Int)} {is : List Int} {ls : List (Int × Int × Int × ByteArray)} {ws : List (Int × Int)} (now far : Int)
    (hx : OwnP w lo hi A c gs A1 c1 is A2 c2 ls A3 c3 ws) (hy : OwnP w lo' hi' C d gs' C1 d1 is C2 d2 ls C3 d3 ws) (hd : gs.map vdat = vs) (hd' : gs'.map vdat = vs) (e : vs.length = n) (e1 : is.length = n1) (e2 : ls.length = n2) (e3 : ws.length = n3) (hh : hi ≤ w.heap.size) (hh' : hi' ≤ w.heap.size) (hm : VtSmall gs) (l1 : n1 ≤ 1048576) (l2 : n2 ≤ 2000000) (l3 : n3 ≤ 2000000) :
    Calls Try.prog 14 #[.agg #[.slice A n c, .int .i64 now, .slice A1 n1 c1, .int .i64 far, .slice A2 n2 c2, .slice A3 n3 c3], .agg #[.slice C n d, .int .i64 now, .slice C1 n1 d1, .int .i64 far, .slice C2 n2 d2, .slice C3 n3 d3]] w fun e w' => e = .returned (.bool true) ∧ Below w.heap.size w w' :=
  eqPoll_same A A1 A2 A3 C C1 C2 C3 n c n1 c1 n2 c2 n3 c3 d d1 d2 d3 now far gs gs' is ls ws w.heap.size w (len_dats hd e) e1 e2 e3 (hd'.trans hd.symm)
    (hx.1.vots.mono hh) (hx.2.1.ints.mono hh) (hx.2.2.1.lets.mono hh) (hx.2.2.2.1.wons.mono hh) (hy.1.vots.mono hh') (hy.2.1.ints.mono hh') (hy.2.2.1.lets.mono hh') (hy.2.2.2.1.wons.mono hh') (Nat.le_refl _) hm l1 l2 l3
end Go.Proofs.Ytojplmjoipjabaa.Po
