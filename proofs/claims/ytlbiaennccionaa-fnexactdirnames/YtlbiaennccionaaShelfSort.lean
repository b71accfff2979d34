/- slices.Sort of texts: the shelf's contract, laid. -/
import Derived.Shelf.Slices.In.SortNone
import Derived.Sort.EveryDepth
import Derived.Sort.OwnSorted
import Derived.Sort.Walk0
import Derived.Test.YtlbiaennccionaaRows
namespace Go.Proofs.Ytlbiaennccionaa
open Go.Shelf Go.Sort

def Try.laysSort_ren : Go.Shelf.Ren := ⟨fun | 190 => 16 | 125 => 20 | 258 => 19 | 128 => 30 | 129 => 31 | 302 => 21 | 303 => 22 | 304 => 23 | 305 => 24 | 306 => 25 | 307 => 26 | 308 => 27 | 309 => 28 | 310 => 29 | 333 => 32 | 329 => 33 | 330 => 34 | 334 => 35 | 335 => 36 | 336 => 37 | 344 => 38 | n => n, fun | 31 => 24 | 9 => 9 | 3 => 3 | 46 => 44 | 0 => 0 | 51 => 56 | 53 => 58 | 4 => 4 | 183 => 48 | 182 => 47 | 131 => 53 | 5 => 5 | 218 => 59 | 222 => 63 | 228 => 66 | 229 => 67 | n => n, fun | n => n⟩
theorem Try.laysSort : Go.Proofs.Lays.n190 Try.prog Try.laysSort_ren := {
  mixed := by kernel_rfl
  f125 := Try.func20.trans (congrArg some (by kernel_rfl))
  f128 := Try.func30.trans (congrArg some (by kernel_rfl))
  f129 := Try.func31.trans (congrArg some (by kernel_rfl))
  f190 := Try.func16.trans (congrArg some (by kernel_rfl))
  f258 := Try.func19.trans (congrArg some (by kernel_rfl))
  f302 := Try.func21.trans (congrArg some (by kernel_rfl))
  f303 := Try.func22.trans (congrArg some (by kernel_rfl))
  f304 := Try.func23.trans (congrArg some (by kernel_rfl))
  f305 := Try.func24.trans (congrArg some (by kernel_rfl))
  f306 := Try.func25.trans (congrArg some (by kernel_rfl))
  f307 := Try.func26.trans (congrArg some (by kernel_rfl))
  f308 := Try.func27.trans (congrArg some (by kernel_rfl))
  f309 := Try.func28.trans (congrArg some (by kernel_rfl))
  f310 := Try.func29.trans (congrArg some (by kernel_rfl))
  f329 := Try.func33.trans (congrArg some (by kernel_rfl))
  f330 := Try.func34.trans (congrArg some (by kernel_rfl))
  f333 := Try.func32.trans (congrArg some (by kernel_rfl))
  f334 := Try.func35.trans (congrArg some (by kernel_rfl))
  f335 := Try.func36.trans (congrArg some (by kernel_rfl))
  f336 := Try.func37.trans (congrArg some (by kernel_rfl))
  f344 := Try.func38.trans (congrArg some (by kernel_rfl))
  t0 := Try.underlying0
  a0 := Try.isAgg0
  z0 := Try.sizeOf0
  v0 := Try.zeroValue0
  t3 := Try.underlying3
  a3 := Try.isAgg3
  z3 := Try.sizeOf3
  v3 := Try.zeroValue3
  t4 := Try.underlying4
  a4 := Try.isAgg4
  z4 := Try.sizeOf4
  v4 := Try.zeroValue4
  t5 := Try.underlying5
  a5 := Try.isAgg5
  z5 := Try.sizeOf5
  v5 := Try.zeroValue5
  t9 := Try.underlying9
  a9 := Try.isAgg9
  z9 := Try.sizeOf9
  v9 := Try.zeroValue9
  t31 := Try.underlying24
  a31 := Try.isAgg24
  z31 := Try.sizeOf24
  v31 := Try.zeroValue24
  t46 := Try.underlying44
  a46 := Try.isAgg44
  z46 := Try.sizeOf44
  v46 := Try.zeroValue44
  t51 := Try.underlying56
  a51 := Try.isAgg56
  z51 := Try.sizeOf56
  v51 := Try.zeroValue56
  t53 := Try.underlying58
  a53 := Try.isAgg58
  z53 := Try.sizeOf58
  v53 := Try.zeroValue58
  t131 := Try.underlying53
  a131 := Try.isAgg53
  z131 := Try.sizeOf53
  v131 := Try.zeroValue53
  t182 := Try.underlying47
  a182 := Try.isAgg47
  z182 := Try.sizeOf47
  v182 := Try.zeroValue47
  t183 := Try.underlying48
  a183 := Try.isAgg48
  z183 := Try.sizeOf48
  v183 := Try.zeroValue48
  t218 := Try.underlying59
  a218 := Try.isAgg59
  z218 := Try.sizeOf59
  v218 := Try.zeroValue59
  t222 := Try.underlying63
  a222 := Try.isAgg63
  z222 := Try.sizeOf63
  v222 := Try.zeroValue63
  t228 := Try.underlying66
  a228 := Try.isAgg66
  z228 := Try.sizeOf66
  v228 := Try.zeroValue66
  t229 := Try.underlying67
  a229 := Try.isAgg67
  z229 := Try.sizeOf67
  v229 := Try.zeroValue67 }

theorem sort_calls (blk off cap : Nat) (zs : List (List UInt8)) (w : World) (hH : Holds encStr w blk off zs.toArray) (hblk : blk < w.heap.size) (hsz : zs.length < 4611686018427387904) :
    Calls Try.prog 16 #[.slice (some ⟨blk, off, none⟩) zs.length cap] w fun e w' =>
      e = .returned (.tuple #[]) ∧ ∃ n os, w' = grow (putRow encStr (Sort.ahead w n) blk off (zs.mergeSort fun x y => decide (x ≤ y)).toArray) os :=
  calls_of_every_depth fun D => AnyS.slices_Sort_string_alone Try.laysSort D blk off cap zs w hH hblk hsz

end Go.Proofs.Ytlbiaennccionaa
