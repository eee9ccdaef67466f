/-
  DERIVED: THE SHELF's CONTRACTS AT THIS DUMP, IN PLAIN WORDS (tools/lay-plain.mjs out of 'YtcpdoicbekcpeaaDoorShelfM.lean', which tools/lay-shelf.mjs wrote): THE SAME DECLARATIONS UNDER THE SAME NAMES: 'import', 'namespace', 'open', 'def', 'theorem' AND NOTHING ELSE: no command of the shelf's: FOR A HAND-IN. Each laying: the table of numbers ('.._ren') and one theorem, a field a fact of the dump's own or the kernel's comparison; each contract: ONE APPLICATION.
-/
import Derived.Shelf.SlicesE.Clone
import Derived.Ground.SlgnProg
import Derived.Ground.SlgcProg
import Derived.Shelf.SlicesG.Cmp
import Derived.Shelf.SlSortCmp.NoneTotal
import Derived.Ground.SlsfProg
import Derived.Test.YtcpdoicbekcpeaaDoorProg
namespace Go.Proofs
open Go.Shelf
def Tryd.clSp_ren : Go.Shelf.Ren := ⟨fun | 41 => 109 | n => n, fun | 22 => 22 | 23 => 110 | 4 => 4 | n => n, fun | n => n⟩
theorem Tryd.clSp : Go.Proofs.SlLaysE0.n41 Tryd.prog Tryd.clSp_ren := {
  mixed := by kernel_rfl
  f41 := ⟨Tryd.f109.name, by decide, Tryd.func109.trans (congrArg some (by kernel_rfl))⟩
  t4 := Tryd.underlying4
  a4 := Tryd.isAgg4
  z4 := Tryd.sizeOf4
  v4 := Tryd.zeroValue4
  t22 := Tryd.underlying22
  a22 := Tryd.isAgg22
  z22 := Tryd.sizeOf22
  v22 := Tryd.zeroValue22 }
def Tryd.clSt_ren : Go.Shelf.Ren := ⟨fun | 41 => 110 | n => n, fun | 22 => 23 | 23 => 148 | 4 => 4 | n => n, fun | n => n⟩
theorem Tryd.clSt : Go.Proofs.SlLaysE0.n41 Tryd.prog Tryd.clSt_ren := {
  mixed := by kernel_rfl
  f41 := ⟨Tryd.f110.name, by decide, Tryd.func110.trans (congrArg some (by kernel_rfl))⟩
  t4 := Tryd.underlying4
  a4 := Tryd.isAgg4
  z4 := Tryd.sizeOf4
  v4 := Tryd.zeroValue4
  t22 := Tryd.underlying23
  a22 := Tryd.isAgg23
  z22 := Tryd.sizeOf23
  v22 := Tryd.zeroValue23 }
def Tryd.cmpInt_ren : Go.Shelf.Ren := ⟨fun | 5 => 155 | 7 => 163 | n => n, fun | 22 => 3 | 3 => 3 | 4 => 4 | n => n, fun | n => n⟩
theorem Tryd.cmpInt : Go.Proofs.SlLaysC2.n5 Tryd.prog Tryd.cmpInt_ren := {
  mixed := by kernel_rfl
  f5 := ⟨Tryd.f155.name, by decide, Tryd.func155.trans (congrArg some (by kernel_rfl))⟩
  f7 := ⟨Tryd.f163.name, by decide, Tryd.func163.trans (congrArg some (by kernel_rfl))⟩
  t3 := Tryd.underlying3
  a3 := Tryd.isAgg3
  z3 := Tryd.sizeOf3
  v3 := Tryd.zeroValue3
  t4 := Tryd.underlying4
  a4 := Tryd.isAgg4
  z4 := Tryd.sizeOf4
  v4 := Tryd.zeroValue4
  t22 := Tryd.underlying3
  a22 := Tryd.isAgg3
  z22 := Tryd.sizeOf3
  v22 := Tryd.zeroValue3 }
def Tryd.sortSt_ren : Go.Shelf.Ren := ⟨fun | 6 => 141 | 15 => 130 | 14 => 157 | 28 => 152 | 29 => 153 | 20 => 164 | 21 => 165 | 22 => 166 | 23 => 167 | 24 => 168 | 25 => 169 | 26 => 170 | 27 => 171 | 46 => 173 | 47 => 159 | 48 => 160 | 49 => 174 | 50 => 175 | 57 => 176 | n => n, fun | 22 => 23 | 24 => 148 | 25 => 179 | 3 => 3 | 39 => 178 | 0 => 0 | 53 => 202 | 55 => 204 | 4 => 4 | 46 => 194 | 45 => 193 | 50 => 199 | 5 => 5 | 9 => 9 | 66 => 207 | 70 => 211 | 76 => 218 | 77 => 219 | n => n, fun | n => n⟩
theorem Tryd.sortSt : Go.Proofs.SlLaysF0.n6 Tryd.prog Tryd.sortSt_ren := {
  mixed := by kernel_rfl
  f6 := ⟨Tryd.f141.name, by decide, Tryd.func141.trans (congrArg some (by kernel_rfl))⟩
  f14 := ⟨Tryd.f157.name, by decide, Tryd.func157.trans (congrArg some (by kernel_rfl))⟩
  f15 := Tryd.func130.trans (congrArg some (by kernel_rfl))
  f20 := ⟨Tryd.f164.name, by decide, Tryd.func164.trans (congrArg some (by kernel_rfl))⟩
  f21 := ⟨Tryd.f165.name, by decide, Tryd.func165.trans (congrArg some (by kernel_rfl))⟩
  f22 := ⟨Tryd.f166.name, by decide, Tryd.func166.trans (congrArg some (by kernel_rfl))⟩
  f23 := ⟨Tryd.f167.name, by decide, Tryd.func167.trans (congrArg some (by kernel_rfl))⟩
  f24 := ⟨Tryd.f168.name, by decide, Tryd.func168.trans (congrArg some (by kernel_rfl))⟩
  f25 := ⟨Tryd.f169.name, by decide, Tryd.func169.trans (congrArg some (by kernel_rfl))⟩
  f26 := ⟨Tryd.f170.name, by decide, Tryd.func170.trans (congrArg some (by kernel_rfl))⟩
  f27 := ⟨Tryd.f171.name, by decide, Tryd.func171.trans (congrArg some (by kernel_rfl))⟩
  f28 := Tryd.func152.trans (congrArg some (by kernel_rfl))
  f29 := Tryd.func153.trans (congrArg some (by kernel_rfl))
  f46 := ⟨Tryd.f173.name, by decide, Tryd.func173.trans (congrArg some (by kernel_rfl))⟩
  f47 := Tryd.func159.trans (congrArg some (by kernel_rfl))
  f48 := Tryd.func160.trans (congrArg some (by kernel_rfl))
  f49 := ⟨Tryd.f174.name, by decide, Tryd.func174.trans (congrArg some (by kernel_rfl))⟩
  f50 := ⟨Tryd.f175.name, by decide, Tryd.func175.trans (congrArg some (by kernel_rfl))⟩
  f57 := ⟨Tryd.f176.name, by decide, Tryd.func176.trans (congrArg some (by kernel_rfl))⟩
  t0 := Tryd.underlying0
  a0 := Tryd.isAgg0
  z0 := Tryd.sizeOf0
  v0 := Tryd.zeroValue0
  t3 := Tryd.underlying3
  a3 := Tryd.isAgg3
  z3 := Tryd.sizeOf3
  v3 := Tryd.zeroValue3
  t4 := Tryd.underlying4
  a4 := Tryd.isAgg4
  z4 := Tryd.sizeOf4
  v4 := Tryd.zeroValue4
  t5 := Tryd.underlying5
  a5 := Tryd.isAgg5
  z5 := Tryd.sizeOf5
  v5 := Tryd.zeroValue5
  t9 := Tryd.underlying9
  a9 := Tryd.isAgg9
  z9 := Tryd.sizeOf9
  v9 := Tryd.zeroValue9
  t22 := Tryd.underlying23
  a22 := Tryd.isAgg23
  z22 := Tryd.sizeOf23
  v22 := Tryd.zeroValue23
  t25 := Tryd.underlying179
  a25 := Tryd.isAgg179
  z25 := Tryd.sizeOf179
  v25 := Tryd.zeroValue179
  t39 := Tryd.underlying178
  a39 := Tryd.isAgg178
  z39 := Tryd.sizeOf178
  v39 := Tryd.zeroValue178
  t45 := Tryd.underlying193
  a45 := Tryd.isAgg193
  z45 := Tryd.sizeOf193
  v45 := Tryd.zeroValue193
  t46 := Tryd.underlying194
  a46 := Tryd.isAgg194
  z46 := Tryd.sizeOf194
  v46 := Tryd.zeroValue194
  t50 := Tryd.underlying199
  a50 := Tryd.isAgg199
  z50 := Tryd.sizeOf199
  v50 := Tryd.zeroValue199
  t53 := Tryd.underlying202
  a53 := Tryd.isAgg202
  z53 := Tryd.sizeOf202
  v53 := Tryd.zeroValue202
  t55 := Tryd.underlying204
  a55 := Tryd.isAgg204
  z55 := Tryd.sizeOf204
  v55 := Tryd.zeroValue204
  t66 := Tryd.underlying207
  a66 := Tryd.isAgg207
  z66 := Tryd.sizeOf207
  v66 := Tryd.zeroValue207
  t70 := Tryd.underlying211
  a70 := Tryd.isAgg211
  z70 := Tryd.sizeOf211
  v70 := Tryd.zeroValue211
  t76 := Tryd.underlying218
  a76 := Tryd.isAgg218
  z76 := Tryd.sizeOf218
  v76 := Tryd.zeroValue218
  t77 := Tryd.underlying219
  a77 := Tryd.isAgg219
  z77 := Tryd.sizeOf219
  v77 := Tryd.zeroValue219 }
end Go.Proofs
