/-
  slices.insertionSortCmpFunc at events: that this program's function is the one that the library's contract speaks of (written by the library's own tool).
-/
import Derived.Shelf.SlSortCmp.KitK
import Derived.Test.YtpgncbhahocmbaaGreatProg
namespace Go.Proofs
open Go.Shelf
def Tryz.insEv_ren : Go.Shelf.Ren := ⟨fun | 20 => 155 | n => n, fun | 24 => 43 | 22 => 31 | 3 => 3 | 25 => 142 | 4 => 4 | 0 => 0 | n => n, fun | n => n⟩
theorem Tryz.insEv : Go.Proofs.SlLaysF0.n20 Tryz.prog Tryz.insEv_ren := {
  mixed := by kernel_rfl
  f20 := ⟨Tryz.f155.name, by decide, Tryz.func155.trans (congrArg some (by kernel_rfl))⟩
  t0 := Tryz.underlying0
  a0 := Tryz.isAgg0
  z0 := Tryz.sizeOf0
  v0 := Tryz.zeroValue0
  t3 := Tryz.underlying3
  a3 := Tryz.isAgg3
  z3 := Tryz.sizeOf3
  v3 := Tryz.zeroValue3
  t4 := Tryz.underlying4
  a4 := Tryz.isAgg4
  z4 := Tryz.sizeOf4
  v4 := Tryz.zeroValue4
  t22 := Tryz.underlying31
  a22 := Tryz.isAgg31
  z22 := Tryz.sizeOf31
  v22 := Tryz.zeroValue31
  t25 := Tryz.underlying142
  a25 := Tryz.isAgg142
  z25 := Tryz.sizeOf142
  v25 := Tryz.zeroValue142 }
end Go.Proofs
