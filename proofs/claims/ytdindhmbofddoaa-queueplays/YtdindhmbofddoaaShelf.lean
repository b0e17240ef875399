/-
  DERIVED: THE SHELF's CONTRACTS AT THIS DUMP, IN PLAIN WORDS (tools/lay-plain.mjs out of 'YtdindhmbofddoaaShelfRaw.lean', which tools/lay-shelf.mjs wrote): THE SAME DECLARATIONS UNDER THE SAME NAMES: 'import', 'namespace', 'open', 'def', 'theorem' AND NOTHING ELSE: no command of the shelf's: FOR A HAND-IN. Each laying: the table of numbers ('.._ren') and one theorem, a field a fact of the dump's own or the kernel's comparison; each contract: ONE APPLICATION.
-/
import Derived.Shelf.SlSortFunc.Xorshift
import Derived.Ground.GgsProg
import Derived.Test.YtdindhmbofddoaaProg
namespace Go.Proofs
open Go.Shelf
def Try.npt_ren : Go.Shelf.Ren := ⟨fun | 35 => 58 | 13 => 42 | 24 => 46 | 25 => 47 | n => n, fun | 3 => 3 | 41 => 83 | 49 => 86 | 51 => 88 | 4 => 4 | 5 => 5 | 9 => 9 | n => n, fun | n => n⟩
theorem Try.npt : Go.Proofs.LaysGg.n35 Try.prog Try.npt_ren := {
  mixed := by kernel_rfl
  f13 := Try.func42.trans (congrArg some (by kernel_rfl))
  f24 := Try.func46.trans (congrArg some (by kernel_rfl))
  f25 := Try.func47.trans (congrArg some (by kernel_rfl))
  f35 := Try.func58.trans (congrArg some (by kernel_rfl))
  t3 := Try.underlying3
  a3 := Try.isAgg3
  z3 := Try.sizeOf3
  v3 := Try.zeroValue3
  i3 := by kernel_rfl
  t4 := Try.underlying4
  a4 := Try.isAgg4
  z4 := Try.sizeOf4
  v4 := Try.zeroValue4
  i4 := by kernel_rfl
  t5 := Try.underlying5
  a5 := Try.isAgg5
  z5 := Try.sizeOf5
  v5 := Try.zeroValue5
  i5 := by kernel_rfl
  t9 := Try.underlying9
  a9 := Try.isAgg9
  z9 := Try.sizeOf9
  v9 := Try.zeroValue9
  i9 := by kernel_rfl
  t41 := Try.underlying83
  a41 := Try.isAgg83
  z41 := Try.sizeOf83
  v41 := Try.zeroValue83
  i41 := by kernel_rfl
  t49 := Try.underlying86
  a49 := Try.isAgg86
  z49 := Try.sizeOf86
  v49 := Try.zeroValue86
  i49 := by kernel_rfl
  t51 := Try.underlying88
  a51 := Try.isAgg88
  z51 := Try.sizeOf88
  v51 := Try.zeroValue88
  i51 := by kernel_rfl }
def Try.xnext_ren : Go.Shelf.Ren := ⟨fun | 36 => 59 | n => n, fun | 66 => 103 | 51 => 88 | 0 => 0 | 60 => 97 | 41 => 83 | n => n, fun | n => n⟩
theorem Try.xnext : Go.Proofs.LaysGg.n36 Try.prog Try.xnext_ren := {
  mixed := by kernel_rfl
  f36 := Try.func59.trans (congrArg some (by kernel_rfl))
  t0 := Try.underlying0
  a0 := Try.isAgg0
  z0 := Try.sizeOf0
  v0 := Try.zeroValue0
  i0 := by kernel_rfl
  t41 := Try.underlying83
  a41 := Try.isAgg83
  z41 := Try.sizeOf83
  v41 := Try.zeroValue83
  i41 := by kernel_rfl
  t51 := Try.underlying88
  a51 := Try.isAgg88
  z51 := Try.sizeOf88
  v51 := Try.zeroValue88
  i51 := by kernel_rfl
  t60 := Try.underlying97
  a60 := Try.isAgg97
  z60 := Try.sizeOf97
  v60 := Try.zeroValue97
  i60 := by kernel_rfl
  t66 := Try.underlying103
  a66 := Try.isAgg103
  z66 := Try.sizeOf103
  v66 := Try.zeroValue103
  i66 := by kernel_rfl }
end Go.Proofs
