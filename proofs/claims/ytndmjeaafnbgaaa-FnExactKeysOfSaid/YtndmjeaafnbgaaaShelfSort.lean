/-
  The contracts of slices.Sort at []string at this dump: the library's own theorems, laid in plain declarations.
-/
import Derived.Shelf.LaysM
import Derived.Shelf.Sort.Plain
import Derived.Shelf.Slices.In.SortNone
import Derived.Test.YtndmjeaafnbgaaaProg
namespace Go.Proofs
open Go.Shelf
def Try.lays190_ren : Go.Shelf.Ren := ⟨fun | 190 => 134 | 125 => 171 | 258 => 170 | 128 => 200 | 129 => 201 | 302 => 191 | 303 => 192 | 304 => 193 | 305 => 194 | 306 => 195 | 307 => 196 | 308 => 197 | 309 => 198 | 310 => 199 | 333 => 207 | 329 => 208 | 330 => 209 | 334 => 210 | 335 => 211 | 336 => 212 | 344 => 215 | n => n, fun | 31 => 62 | 9 => 9 | 3 => 3 | 46 => 174 | 0 => 0 | 51 => 200 | 53 => 83 | 4 => 4 | 183 => 194 | 182 => 193 | 131 => 37 | 5 => 5 | 218 => 203 | 222 => 207 | 228 => 209 | 229 => 210 | n => n, fun | n => n⟩
theorem Try.lays190 : Go.Proofs.Lays.n190 Try.prog Try.lays190_ren := {
  mixed := by kernel_rfl
  f125 := Try.func171.trans (congrArg some (by kernel_rfl))
  f128 := Try.func200.trans (congrArg some (by kernel_rfl))
  f129 := Try.func201.trans (congrArg some (by kernel_rfl))
  f190 := Try.func134.trans (congrArg some (by kernel_rfl))
  f258 := Try.func170.trans (congrArg some (by kernel_rfl))
  f302 := Try.func191.trans (congrArg some (by kernel_rfl))
  f303 := Try.func192.trans (congrArg some (by kernel_rfl))
  f304 := Try.func193.trans (congrArg some (by kernel_rfl))
  f305 := Try.func194.trans (congrArg some (by kernel_rfl))
  f306 := Try.func195.trans (congrArg some (by kernel_rfl))
  f307 := Try.func196.trans (congrArg some (by kernel_rfl))
  f308 := Try.func197.trans (congrArg some (by kernel_rfl))
  f309 := Try.func198.trans (congrArg some (by kernel_rfl))
  f310 := Try.func199.trans (congrArg some (by kernel_rfl))
  f329 := Try.func208.trans (congrArg some (by kernel_rfl))
  f330 := Try.func209.trans (congrArg some (by kernel_rfl))
  f333 := Try.func207.trans (congrArg some (by kernel_rfl))
  f334 := Try.func210.trans (congrArg some (by kernel_rfl))
  f335 := Try.func211.trans (congrArg some (by kernel_rfl))
  f336 := Try.func212.trans (congrArg some (by kernel_rfl))
  f344 := Try.func215.trans (congrArg some (by kernel_rfl))
  t0 := Try.underlying0
  a0 := Try.isAgg0
  z0 := Try.sizeOf0
  v0 := Try.zeroValue0
  t3 := Try.underlying3
  a3 := Try.isAgg3
  z3 := Try.sizeOf3
  v3 := Try.zeroValue3
  t4 := Try.underlying4
  a4 := Try.isAgg4
  z4 := Try.sizeOf4
  v4 := Try.zeroValue4
  t5 := Try.underlying5
  a5 := Try.isAgg5
  z5 := Try.sizeOf5
  v5 := Try.zeroValue5
  t9 := Try.underlying9
  a9 := Try.isAgg9
  z9 := Try.sizeOf9
  v9 := Try.zeroValue9
  t31 := Try.underlying62
  a31 := Try.isAgg62
  z31 := Try.sizeOf62
  v31 := Try.zeroValue62
  t46 := Try.underlying174
  a46 := Try.isAgg174
  z46 := Try.sizeOf174
  v46 := Try.zeroValue174
  t51 := Try.underlying200
  a51 := Try.isAgg200
  z51 := Try.sizeOf200
  v51 := Try.zeroValue200
  t53 := Try.underlying83
  a53 := Try.isAgg83
  z53 := Try.sizeOf83
  v53 := Try.zeroValue83
  t131 := Try.underlying37
  a131 := Try.isAgg37
  z131 := Try.sizeOf37
  v131 := Try.zeroValue37
  t182 := Try.underlying193
  a182 := Try.isAgg193
  z182 := Try.sizeOf193
  v182 := Try.zeroValue193
  t183 := Try.underlying194
  a183 := Try.isAgg194
  z183 := Try.sizeOf194
  v183 := Try.zeroValue194
  t218 := Try.underlying203
  a218 := Try.isAgg203
  z218 := Try.sizeOf203
  v218 := Try.zeroValue203
  t222 := Try.underlying207
  a222 := Try.isAgg207
  z222 := Try.sizeOf207
  v222 := Try.zeroValue207
  t228 := Try.underlying209
  a228 := Try.isAgg209
  z228 := Try.sizeOf209
  v228 := Try.zeroValue209
  t229 := Try.underlying210
  a229 := Try.isAgg210
  z229 := Try.sizeOf210
  v229 := Try.zeroValue210 }
open Go.Sort Go.RowKit in
theorem Try.slices_Sort_string (blk off cap : Nat) (ss : List (List UInt8)) (w : World) (hH : Holds encStr w blk off ss.toArray) (hblk : blk < w.heap.size) (hsz : ss.length < 4611686018427387904) :
    Calls Try.prog 134 #[.slice (some ⟨blk, off, none⟩) ss.length cap] w fun e w' =>
      e = .returned (.tuple #[]) ∧ ∃ n os, w' = grow (putRow encStr (Sort.ahead w n) blk off (ss.mergeSort fun x y => decide (x ≤ y)).toArray) os := Any.slices_Sort_string Try.lays190 blk off cap ss w hH hblk hsz
open Go.RowKit Go.Sort in
/-- .. and plain. (LAID: no walk: one application.) -/
theorem Try.slices_Sort_string_none (p : Option Addr) (cap : Nat) (w : World) :
    Calls Try.prog 134 #[.slice p 0 cap] w fun e w' => e = .returned (.tuple #[]) ∧ w' = w := Any.slices_Sort_string_none Try.lays190 p cap w
end Go.Proofs
