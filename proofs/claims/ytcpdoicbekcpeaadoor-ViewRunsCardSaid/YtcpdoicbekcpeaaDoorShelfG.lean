/-
  DERIVED: THE SHELF's CONTRACTS AT THIS DUMP, IN PLAIN WORDS (tools/lay-plain.mjs out of 'YtcpdoicbekcpeaaDoorShelfG.lean', which tools/lay-shelf.mjs wrote): THE SAME DECLARATIONS UNDER THE SAME NAMES: 'import', 'namespace', 'open', 'def', 'theorem' AND NOTHING ELSE: no command of the shelf's: FOR A HAND-IN. Each laying: the table of numbers ('.._ren') and one theorem, a field a fact of the dump's own or the kernel's comparison; each contract: ONE APPLICATION.
-/
import Derived.Shelf.Spec.SlicesGrow
import Derived.Ground.Names7Prog
import Derived.Shelf.SlicesE.Clone
import Derived.Ground.SlgnProg
import Derived.Shelf.SlicesQ.IndexFunc
import Derived.Ground.SlgfProg
import Derived.Shelf.SortM.Plain
import Derived.Shelf.SortM.SortNone
import Derived.Ground.SlgmProg
import Derived.Test.YtcpdoicbekcpeaaDoorProg
namespace Go.Proofs
open Go.Shelf
def Tryd.growSeg_ren : Go.Shelf.Ren := ⟨fun | 4 => 113 | n => n, fun | 22 => 48 | 25 => 33 | 3 => 3 | 4 => 4 | 9 => 9 | 20 => 20 | 0 => 0 | n => n, fun | n => n⟩
theorem Tryd.growSeg : Go.Proofs.Lays8.n4 Tryd.prog Tryd.growSeg_ren := {
  mixed := by kernel_rfl
  f4 := ⟨Tryd.f113.name, by decide, Tryd.func113.trans (congrArg some (by kernel_rfl))⟩
  t0 := Tryd.underlying0
  a0 := Tryd.isAgg0
  z0 := Tryd.sizeOf0
  v0 := Tryd.zeroValue0
  t3 := Tryd.underlying3
  a3 := Tryd.isAgg3
  z3 := Tryd.sizeOf3
  v3 := Tryd.zeroValue3
  t4 := Tryd.underlying4
  a4 := Tryd.isAgg4
  z4 := Tryd.sizeOf4
  v4 := Tryd.zeroValue4
  t9 := Tryd.underlying9
  a9 := Tryd.isAgg9
  z9 := Tryd.sizeOf9
  v9 := Tryd.zeroValue9
  t20 := Tryd.underlying20
  a20 := Tryd.isAgg20
  z20 := Tryd.sizeOf20
  v20 := Tryd.zeroValue20
  t22 := Tryd.underlying48
  a22 := Tryd.isAgg48
  z22 := Tryd.sizeOf48
  v22 := Tryd.zeroValue48 }
def Tryd.clSeg_ren : Go.Shelf.Ren := ⟨fun | 41 => 78 | n => n, fun | 22 => 48 | 23 => 33 | 4 => 4 | n => n, fun | n => n⟩
theorem Tryd.clSeg : Go.Proofs.SlLaysE0.n41 Tryd.prog Tryd.clSeg_ren := {
  mixed := by kernel_rfl
  f41 := ⟨Tryd.f78.name, by decide, Tryd.func78.trans (congrArg some (by kernel_rfl))⟩
  t4 := Tryd.underlying4
  a4 := Tryd.isAgg4
  z4 := Tryd.sizeOf4
  v4 := Tryd.zeroValue4
  t22 := Tryd.underlying48
  a22 := Tryd.isAgg48
  z22 := Tryd.sizeOf48
  v22 := Tryd.zeroValue48 }
def Tryd.ixSeg_ren : Go.Shelf.Ren := ⟨fun | 6 => 107 | n => n, fun | 22 => 48 | 23 => 33 | 25 => 155 | 3 => 3 | 0 => 0 | 4 => 4 | n => n, fun | n => n⟩
theorem Tryd.ixSeg : Go.Proofs.SlLaysH0.n6 Tryd.prog Tryd.ixSeg_ren := {
  mixed := by kernel_rfl
  f6 := ⟨Tryd.f107.name, by decide, Tryd.func107.trans (congrArg some (by kernel_rfl))⟩
  t0 := Tryd.underlying0
  a0 := Tryd.isAgg0
  z0 := Tryd.sizeOf0
  v0 := Tryd.zeroValue0
  t3 := Tryd.underlying3
  a3 := Tryd.isAgg3
  z3 := Tryd.sizeOf3
  v3 := Tryd.zeroValue3
  t4 := Tryd.underlying4
  a4 := Tryd.isAgg4
  z4 := Tryd.sizeOf4
  v4 := Tryd.zeroValue4
  t22 := Tryd.underlying48
  a22 := Tryd.isAgg48
  z22 := Tryd.sizeOf48
  v22 := Tryd.zeroValue48
  t25 := Tryd.underlying155
  a25 := Tryd.isAgg155
  z25 := Tryd.sizeOf155
  v25 := Tryd.zeroValue155 }
def Tryd.sortInt_ren : Go.Shelf.Ren := ⟨fun | 5 => 105 | 8 => 130 | 7 => 129 | 19 => 152 | 20 => 153 | 10 => 143 | 11 => 144 | 12 => 145 | 13 => 146 | 14 => 147 | 15 => 148 | 16 => 149 | 17 => 150 | 18 => 151 | 30 => 158 | 31 => 159 | 32 => 160 | 33 => 161 | 34 => 162 | 35 => 163 | 40 => 172 | n => n, fun | 23 => 56 | 25 => 3 | 3 => 3 | 32 => 178 | 22 => 56 | 0 => 0 | 44 => 202 | 46 => 204 | 4 => 4 | 36 => 194 | 35 => 193 | 41 => 199 | 5 => 5 | 9 => 9 | 53 => 207 | 57 => 211 | 63 => 218 | 64 => 219 | n => n, fun | n => n⟩
theorem Tryd.sortInt : Go.Proofs.SlLaysM.n5 Tryd.prog Tryd.sortInt_ren := {
  mixed := by kernel_rfl
  f5 := ⟨Tryd.f105.name, by decide, Tryd.func105.trans (congrArg some (by kernel_rfl))⟩
  f7 := ⟨Tryd.f129.name, by decide, Tryd.func129.trans (congrArg some (by kernel_rfl))⟩
  f8 := Tryd.func130.trans (congrArg some (by kernel_rfl))
  f10 := ⟨Tryd.f143.name, by decide, Tryd.func143.trans (congrArg some (by kernel_rfl))⟩
  f11 := ⟨Tryd.f144.name, by decide, Tryd.func144.trans (congrArg some (by kernel_rfl))⟩
  f12 := ⟨Tryd.f145.name, by decide, Tryd.func145.trans (congrArg some (by kernel_rfl))⟩
  f13 := ⟨Tryd.f146.name, by decide, Tryd.func146.trans (congrArg some (by kernel_rfl))⟩
  f14 := ⟨Tryd.f147.name, by decide, Tryd.func147.trans (congrArg some (by kernel_rfl))⟩
  f15 := ⟨Tryd.f148.name, by decide, Tryd.func148.trans (congrArg some (by kernel_rfl))⟩
  f16 := ⟨Tryd.f149.name, by decide, Tryd.func149.trans (congrArg some (by kernel_rfl))⟩
  f17 := ⟨Tryd.f150.name, by decide, Tryd.func150.trans (congrArg some (by kernel_rfl))⟩
  f18 := ⟨Tryd.f151.name, by decide, Tryd.func151.trans (congrArg some (by kernel_rfl))⟩
  f19 := Tryd.func152.trans (congrArg some (by kernel_rfl))
  f20 := Tryd.func153.trans (congrArg some (by kernel_rfl))
  f30 := ⟨Tryd.f158.name, by decide, Tryd.func158.trans (congrArg some (by kernel_rfl))⟩
  f31 := Tryd.func159.trans (congrArg some (by kernel_rfl))
  f32 := Tryd.func160.trans (congrArg some (by kernel_rfl))
  f33 := ⟨Tryd.f161.name, by decide, Tryd.func161.trans (congrArg some (by kernel_rfl))⟩
  f34 := ⟨Tryd.f162.name, by decide, Tryd.func162.trans (congrArg some (by kernel_rfl))⟩
  f35 := ⟨Tryd.f163.name, by decide, Tryd.func163.trans (congrArg some (by kernel_rfl))⟩
  f40 := ⟨Tryd.f172.name, by decide, Tryd.func172.trans (congrArg some (by kernel_rfl))⟩
  t0 := Tryd.underlying0
  a0 := Tryd.isAgg0
  z0 := Tryd.sizeOf0
  v0 := Tryd.zeroValue0
  t3 := Tryd.underlying3
  a3 := Tryd.isAgg3
  z3 := Tryd.sizeOf3
  v3 := Tryd.zeroValue3
  t4 := Tryd.underlying4
  a4 := Tryd.isAgg4
  z4 := Tryd.sizeOf4
  v4 := Tryd.zeroValue4
  t5 := Tryd.underlying5
  a5 := Tryd.isAgg5
  z5 := Tryd.sizeOf5
  v5 := Tryd.zeroValue5
  t9 := Tryd.underlying9
  a9 := Tryd.isAgg9
  z9 := Tryd.sizeOf9
  v9 := Tryd.zeroValue9
  t22 := Tryd.underlying56
  a22 := Tryd.isAgg56
  z22 := Tryd.sizeOf56
  v22 := Tryd.zeroValue56
  t23 := Tryd.underlying56
  a23 := Tryd.isAgg56
  z23 := Tryd.sizeOf56
  v23 := Tryd.zeroValue56
  t25 := Tryd.underlying3
  a25 := Tryd.isAgg3
  z25 := Tryd.sizeOf3
  v25 := Tryd.zeroValue3
  t32 := Tryd.underlying178
  a32 := Tryd.isAgg178
  z32 := Tryd.sizeOf178
  v32 := Tryd.zeroValue178
  t35 := Tryd.underlying193
  a35 := Tryd.isAgg193
  z35 := Tryd.sizeOf193
  v35 := Tryd.zeroValue193
  t36 := Tryd.underlying194
  a36 := Tryd.isAgg194
  z36 := Tryd.sizeOf194
  v36 := Tryd.zeroValue194
  t41 := Tryd.underlying199
  a41 := Tryd.isAgg199
  z41 := Tryd.sizeOf199
  v41 := Tryd.zeroValue199
  t44 := Tryd.underlying202
  a44 := Tryd.isAgg202
  z44 := Tryd.sizeOf202
  v44 := Tryd.zeroValue202
  t46 := Tryd.underlying204
  a46 := Tryd.isAgg204
  z46 := Tryd.sizeOf204
  v46 := Tryd.zeroValue204
  t53 := Tryd.underlying207
  a53 := Tryd.isAgg207
  z53 := Tryd.sizeOf207
  v53 := Tryd.zeroValue207
  t57 := Tryd.underlying211
  a57 := Tryd.isAgg211
  z57 := Tryd.sizeOf211
  v57 := Tryd.zeroValue211
  t63 := Tryd.underlying218
  a63 := Tryd.isAgg218
  z63 := Tryd.sizeOf218
  v63 := Tryd.zeroValue218
  t64 := Tryd.underlying219
  a64 := Tryd.isAgg219
  z64 := Tryd.sizeOf219
  v64 := Tryd.zeroValue219 }
end Go.Proofs
