/-
  The numbers at which functions of Go's own library lie in this program, held against their contracts.
-/
import Derived.Shelf.SlSortCmp.Whole1
import Derived.Shelf.SlicesG.Clone
import Derived.Shelf.SlicesG.Cmp
import Derived.Test.YtajgedhmliekoaaProg
namespace Go.Proofs
open Go.Shelf
def Try.sortI_ren : Go.Shelf.Ren := ⟨fun | 6 => 130 | 15 => 181 | 14 => 180 | 28 => 217 | 29 => 218 | 20 => 209 | 21 => 210 | 22 => 211 | 23 => 212 | 24 => 213 | 25 => 214 | 26 => 215 | 27 => 216 | 46 => 232 | 47 => 233 | 48 => 234 | 49 => 235 | 50 => 236 | 57 => 245 | n => n, fun | 22 => 110 | 24 => 3 | 25 => 189 | 3 => 3 | 39 => 247 | 0 => 0 | 53 => 285 | 55 => 287 | 4 => 4 | 46 => 279 | 45 => 278 | 50 => 228 | 5 => 5 | 9 => 9 | 66 => 305 | 70 => 224 | 76 => 312 | 77 => 161 | n => n, fun | n => n⟩
theorem Try.sortI : Go.Proofs.SlLaysF.n6 Try.prog Try.sortI_ren := {
  mixed := by kernel_rfl
  f6 := ⟨Try.f130.name, by decide, Try.func130.trans (congrArg some (by kernel_rfl))⟩
  f14 := ⟨Try.f180.name, by decide, Try.func180.trans (congrArg some (by kernel_rfl))⟩
  f15 := Try.func181.trans (congrArg some (by kernel_rfl))
  f20 := ⟨Try.f209.name, by decide, Try.func209.trans (congrArg some (by kernel_rfl))⟩
  f21 := ⟨Try.f210.name, by decide, Try.func210.trans (congrArg some (by kernel_rfl))⟩
  f22 := ⟨Try.f211.name, by decide, Try.func211.trans (congrArg some (by kernel_rfl))⟩
  f23 := ⟨Try.f212.name, by decide, Try.func212.trans (congrArg some (by kernel_rfl))⟩
  f24 := ⟨Try.f213.name, by decide, Try.func213.trans (congrArg some (by kernel_rfl))⟩
  f25 := ⟨Try.f214.name, by decide, Try.func214.trans (congrArg some (by kernel_rfl))⟩
  f26 := ⟨Try.f215.name, by decide, Try.func215.trans (congrArg some (by kernel_rfl))⟩
  f27 := ⟨Try.f216.name, by decide, Try.func216.trans (congrArg some (by kernel_rfl))⟩
  f28 := Try.func217.trans (congrArg some (by kernel_rfl))
  f29 := Try.func218.trans (congrArg some (by kernel_rfl))
  f46 := ⟨Try.f232.name, by decide, Try.func232.trans (congrArg some (by kernel_rfl))⟩
  f47 := Try.func233.trans (congrArg some (by kernel_rfl))
  f48 := Try.func234.trans (congrArg some (by kernel_rfl))
  f49 := ⟨Try.f235.name, by decide, Try.func235.trans (congrArg some (by kernel_rfl))⟩
  f50 := ⟨Try.f236.name, by decide, Try.func236.trans (congrArg some (by kernel_rfl))⟩
  f57 := ⟨Try.f245.name, by decide, Try.func245.trans (congrArg some (by kernel_rfl))⟩
  t0 := Try.underlying0
  a0 := Try.isAgg0
  z0 := Try.sizeOf0
  v0 := Try.zeroValue0
  t3 := Try.underlying3
  a3 := Try.isAgg3
  z3 := Try.sizeOf3
  v3 := Try.zeroValue3
  t4 := Try.underlying4
  a4 := Try.isAgg4
  z4 := Try.sizeOf4
  v4 := Try.zeroValue4
  t5 := Try.underlying5
  a5 := Try.isAgg5
  z5 := Try.sizeOf5
  v5 := Try.zeroValue5
  t9 := Try.underlying9
  a9 := Try.isAgg9
  z9 := Try.sizeOf9
  v9 := Try.zeroValue9
  t22 := Try.underlying110
  a22 := Try.isAgg110
  z22 := Try.sizeOf110
  v22 := Try.zeroValue110
  a24 := Try.isAgg3
  z24 := Try.sizeOf3
  t25 := Try.underlying189
  a25 := Try.isAgg189
  z25 := Try.sizeOf189
  v25 := Try.zeroValue189
  t39 := Try.underlying247
  a39 := Try.isAgg247
  z39 := Try.sizeOf247
  v39 := Try.zeroValue247
  t45 := Try.underlying278
  a45 := Try.isAgg278
  z45 := Try.sizeOf278
  v45 := Try.zeroValue278
  t46 := Try.underlying279
  a46 := Try.isAgg279
  z46 := Try.sizeOf279
  v46 := Try.zeroValue279
  t50 := Try.underlying228
  a50 := Try.isAgg228
  z50 := Try.sizeOf228
  v50 := Try.zeroValue228
  t53 := Try.underlying285
  a53 := Try.isAgg285
  z53 := Try.sizeOf285
  v53 := Try.zeroValue285
  t55 := Try.underlying287
  a55 := Try.isAgg287
  z55 := Try.sizeOf287
  v55 := Try.zeroValue287
  t66 := Try.underlying305
  a66 := Try.isAgg305
  z66 := Try.sizeOf305
  v66 := Try.zeroValue305
  t70 := Try.underlying224
  a70 := Try.isAgg224
  z70 := Try.sizeOf224
  v70 := Try.zeroValue224
  t76 := Try.underlying312
  a76 := Try.isAgg312
  z76 := Try.sizeOf312
  v76 := Try.zeroValue312
  t77 := Try.underlying161
  a77 := Try.isAgg161
  z77 := Try.sizeOf161
  v77 := Try.zeroValue161 }
def Try.cmpI_ren : Go.Shelf.Ren := ⟨fun | 5 => 132 | 7 => 182 | n => n, fun | 22 => 3 | 3 => 3 | 4 => 4 | n => n, fun | n => n⟩
theorem Try.cmpI : Go.Proofs.SlLaysC2.n5 Try.prog Try.cmpI_ren := {
  mixed := by kernel_rfl
  f5 := ⟨Try.f132.name, by decide, Try.func132.trans (congrArg some (by kernel_rfl))⟩
  f7 := ⟨Try.f182.name, by decide, Try.func182.trans (congrArg some (by kernel_rfl))⟩
  t3 := Try.underlying3
  a3 := Try.isAgg3
  z3 := Try.sizeOf3
  v3 := Try.zeroValue3
  t4 := Try.underlying4
  a4 := Try.isAgg4
  z4 := Try.sizeOf4
  v4 := Try.zeroValue4
  t22 := Try.underlying3
  a22 := Try.isAgg3
  z22 := Try.sizeOf3
  v22 := Try.zeroValue3 }
def Try.cloneI_ren : Go.Shelf.Ren := ⟨fun | 41 => 129 | n => n, fun | 22 => 110 | 23 => 3 | 4 => 4 | n => n, fun | n => n⟩
theorem Try.cloneI : Go.Proofs.SlLaysN.n41 Try.prog Try.cloneI_ren := {
  mixed := by kernel_rfl
  f41 := ⟨Try.f129.name, by decide, Try.func129.trans (congrArg some (by kernel_rfl))⟩
  t4 := Try.underlying4
  a4 := Try.isAgg4
  z4 := Try.sizeOf4
  v4 := Try.zeroValue4
  t22 := Try.underlying110
  a22 := Try.isAgg110
  z22 := Try.sizeOf110
  v22 := Try.zeroValue110
  t23 := Try.underlying3
  a23 := Try.isAgg3
  z23 := Try.sizeOf3
  v23 := Try.zeroValue3
  i23 := by kernel_rfl }
end Go.Proofs
