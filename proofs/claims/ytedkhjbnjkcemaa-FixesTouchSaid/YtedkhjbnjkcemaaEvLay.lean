/-
  slices.insertionSortCmpFunc at events: that this program's function is the one that the library's contract speaks of (written by the library's own tool).
-/
import Derived.Shelf.SlSortCmp.KitK
import Derived.Test.YtedkhjbnjkcemaaProg
namespace Go.Proofs
open Go.Shelf
def Try.insEv_ren : Go.Shelf.Ren := ⟨fun | 20 => 80 | n => n, fun | 24 => 33 | 22 => 31 | 3 => 3 | 25 => 71 | 4 => 4 | 0 => 0 | n => n, fun | n => n⟩
theorem Try.insEv : Go.Proofs.SlLaysF0.n20 Try.prog Try.insEv_ren := {
  mixed := by kernel_rfl
  f20 := ⟨Try.f80.name, by decide, Try.func80.trans (congrArg some (by kernel_rfl))⟩
  t0 := Try.underlying0
  a0 := Try.isAgg0
  z0 := Try.sizeOf0
  v0 := Try.zeroValue0
  t3 := Try.underlying3
  a3 := Try.isAgg3
  z3 := Try.sizeOf3
  v3 := Try.zeroValue3
  t4 := Try.underlying4
  a4 := Try.isAgg4
  z4 := Try.sizeOf4
  v4 := Try.zeroValue4
  t22 := Try.underlying31
  a22 := Try.isAgg31
  z22 := Try.sizeOf31
  v22 := Try.zeroValue31
  t25 := Try.underlying71
  a25 := Try.isAgg71
  z25 := Try.sizeOf71
  v25 := Try.zeroValue71 }
end Go.Proofs
