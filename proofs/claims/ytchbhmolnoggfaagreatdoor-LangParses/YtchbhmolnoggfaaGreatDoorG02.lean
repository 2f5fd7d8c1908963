import Derived.Shelf.Small.Wraps
import Derived.Shelf.LaysM
import Derived.Shelf.LaysC
import Derived.Shelf.Strconv.ParseIntPublic10
import Derived.Shelf.Strconv.ErrVarParseInt
import Derived.Shelf.Strings.Cut
import Derived.Shelf.Strings.Split
import Derived.Test.YtchbhmolnoggfaaGreatDoorProg
import Derived.Test.YtchbhmolnoggfaaGreatDoorG01
import Derived.Test.YtchbhmolnoggfaaGreatDoorRows
import Derived.OpenShut
import Derived.WalkLawsBesides
import Derived.WalkSpells
import Derived.Lib.IndexBytes
import Derived.Lib.AtoiErrMem
import Derived.Lib.AppendIntMem
import Derived.Below
import Derived.Lib.SmallJoins
/-
  DERIVED: THE SHELF's CONTRACTS AT THIS DUMP, IN PLAIN WORDS (tools/lay-plain.mjs out of 'YtchbhmolnoggfaaGreatDoorShelfSrc.lean', which tools/lay-shelf.mjs wrote): THE SAME DECLARATIONS UNDER THE SAME NAMES: 'import', 'namespace', 'open', 'def', 'theorem' AND NOTHING ELSE: no command of the shelf's: FOR A HAND-IN. Each laying: the table of numbers ('.._ren') and one theorem, a field a fact of the dump's own or the kernel's comparison; each contract: ONE APPLICATION.
-/
namespace Go.Proofs
open Go.Shelf
def Tryz.lays103_ren : Go.Shelf.Ren := ⟨fun | 103 => 60 | 210 => 70 | 206 => 75 | n => n, fun | 9 => 9 | 4 => 4 | 24 => 74 | 3 => 3 | n => n, fun | n => n⟩
theorem Tryz.lays103 : Go.Proofs.Lays.n103 Tryz.prog Tryz.lays103_ren := {
  mixed := by kernel_rfl
  f103 := Tryz.func60.trans (congrArg some (by kernel_rfl))
  f206 := Tryz.func75.trans (congrArg some (by kernel_rfl))
  f210 := Tryz.func70.trans (congrArg some (by kernel_rfl))
  t3 := Tryz.underlying3
  a3 := Tryz.isAgg3
  z3 := Tryz.sizeOf3
  v3 := Tryz.zeroValue3
  t4 := Tryz.underlying4
  a4 := Tryz.isAgg4
  z4 := Tryz.sizeOf4
  v4 := Tryz.zeroValue4
  t9 := Tryz.underlying9
  a9 := Tryz.isAgg9
  z9 := Tryz.sizeOf9
  v9 := Tryz.zeroValue9
  t24 := Tryz.underlying74
  a24 := Tryz.isAgg74
  z24 := Tryz.sizeOf74
  v24 := Tryz.zeroValue74 }
open Go.RowKit in
theorem Tryz.strings_CutPrefix (s p : ByteArray) (w : World) :
    Calls Tryz.prog 60 #[.string s, .string p] w fun e w' => e = .returned (.tuple #[.string ⟨(Lib.trimPrefix s.data.toList p.data.toList).toArray⟩, .bool (Lib.hasPrefix s.data.toList p.data.toList)]) ∧ w' = w := Any.strings_CutPrefix Tryz.lays103 s p w
def Tryz.lays104_ren : Go.Shelf.Ren := ⟨fun | 104 => 20 | 211 => 30 | 207 => 44 | n => n, fun | 9 => 9 | 4 => 4 | 24 => 74 | 3 => 3 | n => n, fun | n => n⟩
theorem Tryz.lays104 : Go.Proofs.Lays.n104 Tryz.prog Tryz.lays104_ren := {
  mixed := by kernel_rfl
  f104 := Tryz.func20.trans (congrArg some (by kernel_rfl))
  f207 := Tryz.func44.trans (congrArg some (by kernel_rfl))
  f211 := Tryz.func30.trans (congrArg some (by kernel_rfl))
  t3 := Tryz.underlying3
  a3 := Tryz.isAgg3
  z3 := Tryz.sizeOf3
  v3 := Tryz.zeroValue3
  t4 := Tryz.underlying4
  a4 := Tryz.isAgg4
  z4 := Tryz.sizeOf4
  v4 := Tryz.zeroValue4
  t9 := Tryz.underlying9
  a9 := Tryz.isAgg9
  z9 := Tryz.sizeOf9
  v9 := Tryz.zeroValue9
  t24 := Tryz.underlying74
  a24 := Tryz.isAgg74
  z24 := Tryz.sizeOf74
  v24 := Tryz.zeroValue74 }
open Go.RowKit in
theorem Tryz.strings_CutSuffix (s p : ByteArray) (w : World) (hs : s.size ≤ 9223372036854775807) :
    Calls Tryz.prog 20 #[.string s, .string p] w fun e w' => e = .returned (.tuple #[.string ⟨(Lib.trimSuffix s.data.toList p.data.toList).toArray⟩, .bool (Lib.hasSuffix s.data.toList p.data.toList)]) ∧ w' = w := Any.strings_CutSuffix Tryz.lays104 s p w hs
def Tryz.laysC174_ren : Go.Shelf.Ren := ⟨fun | 174 => 72 | 247 => 76 | 245 => 77 | 287 => 78 | 279 => 79 | 280 => 80 | 281 => 81 | 282 => 82 | 321 => 83 | 322 => 84 | 316 => 85 | 171 => 87 | 205 => 86 | 243 => 88 | 246 => 89 | 283 => 90 | 284 => 91 | 285 => 92 | 286 => 93 | 129 => 95 | 317 => 94 | 318 => 96 | 319 => 97 | 320 => 98 | 337 => 99 | 338 => 100 | n => n, fun | 9 => 9 | 3 => 3 | 2 => 2 | 75 => 134 | 85 => 135 | 4 => 4 | 167 => 146 | 5 => 5 | 53 => 128 | 175 => 147 | 46 => 131 | 168 => 149 | 37 => 114 | 0 => 0 | 210 => 155 | 21 => 21 | 127 => 157 | 145 => 160 | 143 => 158 | 171 => 162 | 173 => 165 | 212 => 168 | 51 => 142 | 20 => 20 | 213 => 169 | 232 => 173 | 233 => 174 | 80 => 175 | n => n, fun | 15 => 6 | 16 => 7 | 17 => 8 | 18 => 9 | 19 => 10 | n => n⟩
theorem Tryz.laysC174 : Go.Proofs.LaysC.n174 Tryz.prog Tryz.laysC174_ren := {
  mixed := by kernel_rfl
  f129 := Tryz.func95.trans (congrArg some (by kernel_rfl))
  f171 := Tryz.func87.trans (congrArg some (by kernel_rfl))
  f174 := Tryz.func72.trans (congrArg some (by kernel_rfl))
  f205 := Tryz.func86.trans (congrArg some (by kernel_rfl))
  f243 := Tryz.func88.trans (congrArg some (by kernel_rfl))
  f245 := Tryz.func77.trans (congrArg some (by kernel_rfl))
  f246 := Tryz.func89.trans (congrArg some (by kernel_rfl))
  f247 := Tryz.func76.trans (congrArg some (by kernel_rfl))
  f279 := Tryz.func79.trans (congrArg some (by kernel_rfl))
  f280 := Tryz.func80.trans (congrArg some (by kernel_rfl))
  f281 := Tryz.func81.trans (congrArg some (by kernel_rfl))
  f282 := Tryz.func82.trans (congrArg some (by kernel_rfl))
  f283 := Tryz.func90.trans (congrArg some (by kernel_rfl))
  f284 := Tryz.func91.trans (congrArg some (by kernel_rfl))
  f285 := Tryz.func92.trans (congrArg some (by kernel_rfl))
  f286 := Tryz.func93.trans (congrArg some (by kernel_rfl))
  f287 := Tryz.func78.trans (congrArg some (by kernel_rfl))
  f316 := Tryz.func85.trans (congrArg some (by kernel_rfl))
  f317 := Tryz.func94.trans (congrArg some (by kernel_rfl))
  f318 := Tryz.func96.trans (congrArg some (by kernel_rfl))
  f319 := Tryz.func97.trans (congrArg some (by kernel_rfl))
  f320 := Tryz.func98.trans (congrArg some (by kernel_rfl))
  f321 := Tryz.func83.trans (congrArg some (by kernel_rfl))
  f322 := Tryz.func84.trans (congrArg some (by kernel_rfl))
  f337 := Tryz.func99.trans (congrArg some (by kernel_rfl))
  f338 := Tryz.func100.trans (congrArg some (by kernel_rfl))
  t0 := Tryz.underlying0
  a0 := Tryz.isAgg0
  z0 := Tryz.sizeOf0
  v0 := Tryz.zeroValue0
  t2 := Tryz.underlying2
  a2 := Tryz.isAgg2
  z2 := Tryz.sizeOf2
  v2 := Tryz.zeroValue2
  t3 := Tryz.underlying3
  a3 := Tryz.isAgg3
  z3 := Tryz.sizeOf3
  v3 := Tryz.zeroValue3
  t4 := Tryz.underlying4
  a4 := Tryz.isAgg4
  z4 := Tryz.sizeOf4
  v4 := Tryz.zeroValue4
  t5 := Tryz.underlying5
  a5 := Tryz.isAgg5
  z5 := Tryz.sizeOf5
  v5 := Tryz.zeroValue5
  t9 := Tryz.underlying9
  a9 := Tryz.isAgg9
  z9 := Tryz.sizeOf9
  v9 := Tryz.zeroValue9
  t20 := Tryz.underlying20
  a20 := Tryz.isAgg20
  z20 := Tryz.sizeOf20
  v20 := Tryz.zeroValue20
  t21 := Tryz.underlying21
  a21 := Tryz.isAgg21
  z21 := Tryz.sizeOf21
  v21 := Tryz.zeroValue21
  t37 := Tryz.underlying114
  a37 := Tryz.isAgg114
  z37 := Tryz.sizeOf114
  v37 := Tryz.zeroValue114
  t46 := Tryz.underlying131
  a46 := Tryz.isAgg131
  z46 := Tryz.sizeOf131
  v46 := Tryz.zeroValue131
  t51 := Tryz.underlying142
  a51 := Tryz.isAgg142
  z51 := Tryz.sizeOf142
  v51 := Tryz.zeroValue142
  t53 := Tryz.underlying128
  a53 := Tryz.isAgg128
  z53 := Tryz.sizeOf128
  v53 := Tryz.zeroValue128
  t75 := Tryz.underlying134
  a75 := Tryz.isAgg134
  z75 := Tryz.sizeOf134
  v75 := Tryz.zeroValue134
  t85 := Tryz.underlying135
  a85 := Tryz.isAgg135
  z85 := Tryz.sizeOf135
  v85 := Tryz.zeroValue135
  t127 := Tryz.underlying157
  a127 := Tryz.isAgg157
  z127 := Tryz.sizeOf157
  v127 := Tryz.zeroValue157
  t143 := Tryz.underlying158
  a143 := Tryz.isAgg158
  z143 := Tryz.sizeOf158
  v143 := Tryz.zeroValue158
  t145 := Tryz.underlying160
  a145 := Tryz.isAgg160
  z145 := Tryz.sizeOf160
  v145 := Tryz.zeroValue160
  t167 := Tryz.underlying146
  a167 := Tryz.isAgg146
  z167 := Tryz.sizeOf146
  v167 := Tryz.zeroValue146
  t168 := Tryz.underlying149
  a168 := Tryz.isAgg149
  z168 := Tryz.sizeOf149
  v168 := Tryz.zeroValue149
  t171 := Tryz.underlying162
  a171 := Tryz.isAgg162
  z171 := Tryz.sizeOf162
  v171 := Tryz.zeroValue162
  t173 := Tryz.underlying165
  a173 := Tryz.isAgg165
  z173 := Tryz.sizeOf165
  v173 := Tryz.zeroValue165
  t175 := Tryz.underlying147
  a175 := Tryz.isAgg147
  z175 := Tryz.sizeOf147
  v175 := Tryz.zeroValue147
  t210 := Tryz.underlying155
  a210 := Tryz.isAgg155
  z210 := Tryz.sizeOf155
  v210 := Tryz.zeroValue155
  t212 := Tryz.underlying168
  a212 := Tryz.isAgg168
  z212 := Tryz.sizeOf168
  v212 := Tryz.zeroValue168
  t213 := Tryz.underlying169
  a213 := Tryz.isAgg169
  z213 := Tryz.sizeOf169
  t232 := Tryz.underlying173
  a232 := Tryz.isAgg173
  z232 := Tryz.sizeOf173
  v232 := Tryz.zeroValue173
  t233 := Tryz.underlying174
  a233 := Tryz.isAgg174
  z233 := Tryz.sizeOf174
  v233 := Tryz.zeroValue174
  g15 := by kernel_rfl
  g16 := by kernel_rfl
  g17 := by kernel_rfl
  g18 := by kernel_rfl
  g19 := by kernel_rfl
  t80 := Tryz.underlying175
  a80 := Tryz.isAgg175
  z80 := Tryz.sizeOf175
  v80 := Tryz.zeroValue175
  i0 := by kernel_rfl
  i2 := by kernel_rfl
  i3 := by kernel_rfl
  i4 := by kernel_rfl
  i5 := by kernel_rfl
  i9 := by kernel_rfl
  i20 := by kernel_rfl
  i21 := by kernel_rfl
  i37 := by kernel_rfl
  i46 := by kernel_rfl
  i51 := by kernel_rfl
  i53 := by kernel_rfl
  i75 := by kernel_rfl
  i80 := by kernel_rfl
  i85 := by kernel_rfl
  i127 := by kernel_rfl
  i143 := by kernel_rfl
  i145 := by kernel_rfl
  i167 := by kernel_rfl
  i168 := by kernel_rfl
  i171 := by kernel_rfl
  i173 := by kernel_rfl
  i175 := by kernel_rfl
  i210 := by kernel_rfl
  i212 := by kernel_rfl
  i232 := by kernel_rfl
  i233 := by kernel_rfl
  m15 := by kernel_rfl
  m16 := by kernel_rfl
  m17 := by kernel_rfl
  m18 := by kernel_rfl
  m19 := by kernel_rfl
  c0 := by kernel_rfl
  c2 := by kernel_rfl
  c3 := by kernel_rfl
  c4 := by kernel_rfl
  c5 := by kernel_rfl
  c9 := by kernel_rfl
  c20 := by kernel_rfl
  c21 := by kernel_rfl
  c37 := by kernel_rfl
  c46 := by kernel_rfl
  c51 := by kernel_rfl
  c53 := by kernel_rfl
  c75 := by kernel_rfl
  c80 := by kernel_rfl
  c85 := by kernel_rfl
  c127 := by kernel_rfl
  c143 := by kernel_rfl
  c145 := by kernel_rfl
  c167 := by kernel_rfl
  c168 := by kernel_rfl
  c171 := by kernel_rfl
  c173 := by kernel_rfl
  c175 := by kernel_rfl
  c210 := by kernel_rfl
  c212 := by kernel_rfl
  c213 := by kernel_rfl
  c232 := by kernel_rfl
  c233 := by kernel_rfl }
open Go.RowKit in
theorem Tryz.strconv_ParseInt_10_at64_ok (s : ByteArray) (hmax : s.size ≤ 9223372036854775806) (v : Int) (h : Lib.parseIntB 64 s.data.toList = .ok v) (w : World) :
    Calls Tryz.prog 72 #[.string s, .int .i64 10, .int .i64 64] w fun e w' => e = .returned (.tuple #[.int .i64 v, .nilIface]) ∧ (w' = w ∨ ∃ t, w' = Lib.bytesWorld w 5 t) := Any.strconv_ParseInt_10_at64_ok Tryz.laysC174 s hmax v h w
open Go.RowKit in
theorem Tryz.strconv_ParseInt_10_at64_range_var (s : ByteArray) (hlim : s.size ≤ 281474976710656) (h : Lib.parseIntB 64 s.data.toList = .range) (tp : TypeId) (p : Value) (w : World) (hvar : w.var? Tryz.prog "strconv.ErrRange" = some #[.iface tp p]) :
    Calls Tryz.prog 72 #[.string s, .int .i64 10, .int .i64 64] w fun e w' => ∃ N, e = .returned (.tuple #[.int .i64 (Lib.intSat 64 s.data.toList), .iface 149 (.pointer (some ⟨N, 0, none⟩))]) ∧ w.heap.size ≤ N ∧ w'.heap[N]? = some (.cells #[.string ⟨#[80, 97, 114, 115, 101, 73, 110, 116]⟩, .string s, .iface tp p] 155 (0, 0)) ∧ Below w.heap.size w w' := Any.strconv_ParseInt_10_at64_range_var Tryz.laysC174 s hlim h tp p w hvar
def Tryz.lays145_ren : Go.Shelf.Ren := ⟨fun | 145 => 29 | 220 => 43 | 219 => 58 | 217 => 65 | 225 => 66 | 224 => 67 | 267 => 68 | 266 => 73 | 314 => 74 | n => n, fun | 9 => 9 | 4 => 4 | 59 => 90 | 3 => 3 | 5 => 5 | 46 => 131 | 146 => 143 | 51 => 142 | n => n, fun | 1 => 2 | n => n⟩
theorem Tryz.lays145 : Go.Proofs.Lays.n145 Tryz.prog Tryz.lays145_ren := {
  mixed := by kernel_rfl
  f145 := Tryz.func29.trans (congrArg some (by kernel_rfl))
  f217 := Tryz.func65.trans (congrArg some (by kernel_rfl))
  f219 := Tryz.func58.trans (congrArg some (by kernel_rfl))
  f220 := Tryz.func43.trans (congrArg some (by kernel_rfl))
  f224 := Tryz.func67.trans (congrArg some (by kernel_rfl))
  f225 := Tryz.func66.trans (congrArg some (by kernel_rfl))
  f266 := Tryz.func73.trans (congrArg some (by kernel_rfl))
  f267 := Tryz.func68.trans (congrArg some (by kernel_rfl))
  f314 := Tryz.func74.trans (congrArg some (by kernel_rfl))
  t3 := Tryz.underlying3
  a3 := Tryz.isAgg3
  z3 := Tryz.sizeOf3
  v3 := Tryz.zeroValue3
  t4 := Tryz.underlying4
  a4 := Tryz.isAgg4
  z4 := Tryz.sizeOf4
  v4 := Tryz.zeroValue4
  t5 := Tryz.underlying5
  a5 := Tryz.isAgg5
  z5 := Tryz.sizeOf5
  v5 := Tryz.zeroValue5
  t9 := Tryz.underlying9
  a9 := Tryz.isAgg9
  z9 := Tryz.sizeOf9
  v9 := Tryz.zeroValue9
  t46 := Tryz.underlying131
  a46 := Tryz.isAgg131
  z46 := Tryz.sizeOf131
  v46 := Tryz.zeroValue131
  t51 := Tryz.underlying142
  a51 := Tryz.isAgg142
  z51 := Tryz.sizeOf142
  v51 := Tryz.zeroValue142
  t59 := Tryz.underlying90
  a59 := Tryz.isAgg90
  z59 := Tryz.sizeOf90
  v59 := Tryz.zeroValue90
  t146 := Tryz.underlying143
  a146 := Tryz.isAgg143
  z146 := Tryz.sizeOf143
  v146 := Tryz.zeroValue143
  g1 := by kernel_rfl }
open Go.RowKit Go.Lib in
theorem Tryz.strings_Cut (s sep : ByteArray) (m : Int) (w : World) (hs : s.size < 4294967281) (hm : w.cell? ⟨2, 0, none⟩ = some (.int .i64 m)) :
    Calls Tryz.prog 29 #[.string s, .string sep] w fun e w' => e = .returned (.tuple #[.string ⟨(Lib.cut s.data.toList sep.data.toList).1.toArray⟩, .string ⟨(Lib.cut s.data.toList sep.data.toList).2.1.toArray⟩, .bool (Lib.cut s.data.toList sep.data.toList).2.2]) ∧ ∃ n, w' = w.drewN n := Any.strings_Cut Tryz.lays145 s sep m w hs hm
def Tryz.lays146_ren : Go.Shelf.Ren := ⟨fun | 146 => 18 | 221 => 28 | 268 => 40 | 138 => 41 | 143 => 42 | 195 => 55 | 197 => 56 | 218 => 57 | 219 => 58 | 260 => 64 | 217 => 65 | 225 => 66 | 224 => 67 | 267 => 68 | 266 => 73 | 314 => 74 | n => n, fun | 9 => 9 | 31 => 44 | 3 => 3 | 4 => 4 | 0 => 0 | 105 => 118 | 21 => 21 | 5 => 5 | 46 => 131 | 119 => 138 | 139 => 141 | 138 => 140 | 146 => 143 | 51 => 142 | n => n, fun | 1 => 2 | 3 => 4 | 4 => 5 | n => n⟩
theorem Tryz.lays146 : Go.Proofs.Lays.n146 Tryz.prog Tryz.lays146_ren := {
  mixed := by kernel_rfl
  f138 := Tryz.func41.trans (congrArg some (by kernel_rfl))
  f143 := Tryz.func42.trans (congrArg some (by kernel_rfl))
  f146 := Tryz.func18.trans (congrArg some (by kernel_rfl))
  f195 := Tryz.func55.trans (congrArg some (by kernel_rfl))
  f197 := Tryz.func56.trans (congrArg some (by kernel_rfl))
  f217 := Tryz.func65.trans (congrArg some (by kernel_rfl))
  f218 := Tryz.func57.trans (congrArg some (by kernel_rfl))
  f219 := Tryz.func58.trans (congrArg some (by kernel_rfl))
  f221 := Tryz.func28.trans (congrArg some (by kernel_rfl))
  f224 := Tryz.func67.trans (congrArg some (by kernel_rfl))
  f225 := Tryz.func66.trans (congrArg some (by kernel_rfl))
  f260 := Tryz.func64.trans (congrArg some (by kernel_rfl))
  f266 := Tryz.func73.trans (congrArg some (by kernel_rfl))
  f267 := Tryz.func68.trans (congrArg some (by kernel_rfl))
  f268 := Tryz.func40.trans (congrArg some (by kernel_rfl))
  f314 := Tryz.func74.trans (congrArg some (by kernel_rfl))
  t0 := Tryz.underlying0
  a0 := Tryz.isAgg0
  z0 := Tryz.sizeOf0
  v0 := Tryz.zeroValue0
  t3 := Tryz.underlying3
  a3 := Tryz.isAgg3
  z3 := Tryz.sizeOf3
  v3 := Tryz.zeroValue3
  t4 := Tryz.underlying4
  a4 := Tryz.isAgg4
  z4 := Tryz.sizeOf4
  v4 := Tryz.zeroValue4
  t5 := Tryz.underlying5
  a5 := Tryz.isAgg5
  z5 := Tryz.sizeOf5
  v5 := Tryz.zeroValue5
  t9 := Tryz.underlying9
  a9 := Tryz.isAgg9
  z9 := Tryz.sizeOf9
  v9 := Tryz.zeroValue9
  t21 := Tryz.underlying21
  a21 := Tryz.isAgg21
  z21 := Tryz.sizeOf21
  v21 := Tryz.zeroValue21
  t31 := Tryz.underlying44
  a31 := Tryz.isAgg44
  z31 := Tryz.sizeOf44
  v31 := Tryz.zeroValue44
  t46 := Tryz.underlying131
  a46 := Tryz.isAgg131
  z46 := Tryz.sizeOf131
  v46 := Tryz.zeroValue131
  t51 := Tryz.underlying142
  a51 := Tryz.isAgg142
  z51 := Tryz.sizeOf142
  v51 := Tryz.zeroValue142
  t105 := Tryz.underlying118
  a105 := Tryz.isAgg118
  z105 := Tryz.sizeOf118
  v105 := Tryz.zeroValue118
  t119 := Tryz.underlying138
  a119 := Tryz.isAgg138
  z119 := Tryz.sizeOf138
  t138 := Tryz.underlying140
  a138 := Tryz.isAgg140
  z138 := Tryz.sizeOf140
  v138 := Tryz.zeroValue140
  t139 := Tryz.underlying141
  a139 := Tryz.isAgg141
  z139 := Tryz.sizeOf141
  v139 := Tryz.zeroValue141
  t146 := Tryz.underlying143
  a146 := Tryz.isAgg143
  z146 := Tryz.sizeOf143
  v146 := Tryz.zeroValue143
  g1 := by kernel_rfl
  g3 := by kernel_rfl
  g4 := by kernel_rfl }
open Go.RowKit Go.Lib in
theorem Tryz.strings_Split (s sep : ByteArray) (m : Int) (w : World) (hs : s.size < 4294967281) (hm : w.cell? ⟨2, 0, none⟩ = some (.int .i64 m)) (h1 : 1 ≤ sep.size) :
    Calls Tryz.prog 18 #[.string s, .string sep] w fun e w' =>
      e = .returned (.slice (some ⟨w.heap.size, 0, none⟩) (Lib.countB s sep + 1) (Lib.countB s sep + 1)) ∧ w' = w.alloc (.cells ((Lib.splitB sep 0 (Lib.countB s sep) s).map Value.string).toArray 9) := Any.strings_Split Tryz.lays146 (by kernel_rfl) s sep m w hs hm h1
end Go.Proofs

namespace Go.Proofs.YtchbhmolnoggfaaGreatDoor
open Go.ChangeShapes Go.WideShapes Go.ChangeAt Go.RowKit
theorem list_of (s : ByteArray) : s.toList = s.data.toList := ByteArray.toList_eq s
theorem list_len (s : ByteArray) : s.toList.length = s.size := by rw [list_of]; exact Array.length_toList
theorem list_get (s : ByteArray) (k : Nat) (h : k < s.size) : s.toList[k]? = some s[k] := by
  have h' : k < s.data.size := h
  rw [list_of, Array.getElem?_toList, Array.getElem?_eq_getElem h']; rfl
theorem list_cons (s : ByteArray) (h : 0 < s.size) : s.toList = s[0] :: s.toList.drop 1 := by
  have h0 := list_get s 0 h
  cases hl : s.toList with
  | nil => rw [hl] at h0; simp at h0
  | cons c r => rw [hl] at h0; simp at h0; rw [h0]; rfl
theorem list_tail (s : ByteArray) : (s.extract 1 s.size).toList = s.toList.drop 1 := by
  rw [list_of, list_of]
  exact Lib.extract_to_end s 1
theorem all_of (l : List UInt8) (h : ∀ k, k < l.length → ∀ c, l[k]? = some c → digB c = true) : l.all digB = true := by
  rw [List.all_eq_true]
  intro c hc
  obtain ⟨k, hk, rfl⟩ := List.getElem_of_mem hc
  exact h k hk _ (List.getElem?_eq_getElem hk)
def DigTo (t : ByteArray) (k : Nat) : Prop := ∀ j (h : j < t.size), j < k → 48 ≤ t[j].toNat ∧ t[j].toNat ≤ 57
theorem digTo_zero (t : ByteArray) : DigTo t 0 := fun _ _ h => absurd h (by omega)
theorem digTo_succ {t : ByteArray} {k : Nat} (h : DigTo t k) (hk : k < t.size) (h1 : 48 ≤ t[k].toNat) (h2 : t[k].toNat ≤ 57) : DigTo t (k + 1) := by
  intro j hj hjk
  by_cases e : j = k
  · subst e; exact ⟨h1, h2⟩
  · exact h j hj (by omega)
theorem digTo_all {t : ByteArray} (h : DigTo t t.size) : t.toList.all digB = true := by
  refine all_of _ fun k hk c hc => ?_
  rw [list_len] at hk
  rw [list_get t k hk] at hc
  cases hc
  exact (digB_iff _).2 (h k hk hk)
theorem not_all {t : ByteArray} {k : Nat} (hk : k < t.size) (h : t[k].toNat < 48 ∨ 57 < t[k].toNat) : t.toList.all digB = false := by
  rw [Bool.eq_false_iff]
  intro ha
  have := List.all_eq_true.1 ha t[k] (List.mem_of_getElem? (list_get t k hk))
  have := (digB_iff _).1 this
  omega
theorem form_nil {s : ByteArray} (h : s.size = 0) : numForm s.toList = false := by
  have : s.toList = [] := List.eq_nil_of_length_eq_zero (by rw [list_len]; exact h)
  rw [this]; rfl
theorem form_minus {s : ByteArray} (h : 0 < s.size) (h1 : s[0].toNat = 45) :
    (s.size = 1 → numForm s.toList = false) ∧ ∀ h2 : 0 < (s.extract 1 s.size).size, ((s.extract 1 s.size)[0].toNat = 48 → numForm s.toList = false ∧ (s.toList == [48]) = false) ∧ ((s.extract 1 s.size)[0].toNat ≠ 48 → numForm s.toList = (s.extract 1 s.size).toList.all digB) := by
  have e := list_cons s h
  rw [← list_tail] at e
  refine ⟨fun k => ?_, fun h2 => ?_⟩
  · have : (s.extract 1 s.size).toList = [] := List.eq_nil_of_length_eq_zero (by rw [list_tail, List.length_drop, list_len]; omega)
    rw [this] at e
    rw [e, numForm_cons, if_pos h1]
  · have e2 := list_cons _ h2
    generalize s.extract 1 s.size = t at *
    refine ⟨fun k => ⟨?_, ?_⟩, fun k => ?_⟩
    · rw [e, e2, numForm_cons, if_pos h1]
      simp only
      rw [if_pos k]
    · rw [e]
      simp only [List.cons_beq_cons, Bool.and_eq_false_iff]
      left
      rw [beq_eq_false_iff_ne]
      intro q
      rw [q] at h1
      exact absurd h1 (by decide)
    · rw [e, e2, numForm_cons, if_pos h1]
      simp only
      rw [if_neg k]
theorem form_plain {s : ByteArray} (h : 0 < s.size) (h1 : s[0].toNat ≠ 45) :
    (s[0].toNat = 48 → numForm s.toList = (s.toList == [48])) ∧ (s[0].toNat ≠ 48 → numForm s.toList = s.toList.all digB) := by
  have e := list_cons s h
  refine ⟨fun k => ?_, fun k => ?_⟩
  · rw [e, numForm_cons, if_neg h1, if_pos k]
    have : s[0] = 48 := UInt8.toNat_inj.1 k
    rw [this]
    cases s.toList.drop 1 <;> rfl
  · rw [e, numForm_cons, if_neg h1, if_neg k]
end Go.Proofs.YtchbhmolnoggfaaGreatDoor

namespace Go.Proofs.YtchbhmolnoggfaaGreatDoor
open Go.ChangeShapes Go.WideShapes Go.ChangeAt Go.RowKit
set_option maxHeartbeats 1000000 in
theorem isNum_minus (s : ByteArray) (w : World) (hs : s.size ≤ 281474976710656) (h : 0 < s.size) (h1 : s[0].toNat = 45) (h2 : 0 < (s.extract 1 s.size).size) (h3 : (s.extract 1 s.size)[0].toNat ≠ 48) :
    Calls Tryz.prog 71 #[.string s] w fun e w' => e = .returned (.bool (numForm s.toList)) ∧ w' = w := by
  have HF : Hid (_ = _) := ((form_minus h h1).2 h2).2 h3
  have a1 : s.toList.isEmpty = false := by rw [list_cons s h]; rfl
  have a2 : ((s[0].toNat : Int) == 45) = true := by simp; omega
  have hts : (s.extract 1 s.size).size ≤ 281474976710656 := by simp; omega
  have a3 : (s.extract 1 s.size).toList.isEmpty = false := by rw [list_cons _ h2]; rfl
  have a4 : (((s.extract 1 s.size)[0].toNat : Int) == 48) = false := by simp; omega
  have h2' : 0 < s.size - 1 := by simpa using h2
  go_enter Tryz.func71, Tryz.ntmps71
  go_wp2
  generalize (s.extract 1 s.size)[0].toNat = c0 at *
  clear h2 h2' h3 a4
  generalize s.extract 1 s.size = t at *
  go_loop [4] (fun i => ∃ k : Nat, k ≤ t.size ∧ i = .int .i64 k ∧ DigTo t k) (fun i => t.size - (intOf i).toNat)
  case atStart => exact ⟨0, Nat.zero_le _, rfl, digTo_zero _⟩
  case round =>
    obtain ⟨k, hk, rfl, hd⟩ := hrel
    have HD : Hid (DigTo t k) := hd
    clear hd
    by_cases hlt : k < t.size
    · by_cases c1 : t[k].toNat < 48
      · have b1 : decide ((t[k].toNat : Int) < 48) = true := by simp; omega
        have HN : Hid (_ = _) := not_all hlt (.inl c1)
        go_wp2
        go_ret
        exact ⟨retB (by rw [HF.out, HN.out]), rfl⟩
      · have b1 : decide ((t[k].toNat : Int) < 48) = false := by simp; omega
        by_cases c2 : 57 < t[k].toNat
        · have b2 : decide ((57 : Int) < (t[k].toNat : Int)) = true := by simp; omega
          have HN : Hid (_ = _) := not_all hlt (.inr c2)
          go_wp2
          go_ret
          exact ⟨retB (by rw [HF.out, HN.out]), rfl⟩
        · have b2 : decide ((57 : Int) < (t[k].toNat : Int)) = false := by simp; omega
          have HN : Hid (DigTo t (k + 1)) := digTo_succ HD.out hlt (by omega) (by omega)
          go_wp2
          go_round
          case rel => exact ⟨k + 1, by omega, by go_num, HN.out⟩
          case measure => simp [intOf]; omega
    · have e : k = t.size := by omega
      subst e
      have HN : Hid (_ = _) := digTo_all HD.out
      go_wp2
      go_ret
      exact ⟨retB (by rw [HF.out, HN.out]), rfl⟩
set_option maxHeartbeats 1000000 in
theorem isNum_plain (s : ByteArray) (w : World) (hs : s.size ≤ 281474976710656) (h : 0 < s.size) (h1 : s[0].toNat ≠ 45) (h3 : s[0].toNat ≠ 48) :
    Calls Tryz.prog 71 #[.string s] w fun e w' => e = .returned (.bool (numForm s.toList)) ∧ w' = w := by
  have HF : Hid (_ = _) := (form_plain h h1).2 h3
  have a1 : s.toList.isEmpty = false := by rw [list_cons s h]; rfl
  have a2 : ((s[0].toNat : Int) == 45) = false := by simp; omega
  have a4 : ((s[0].toNat : Int) == 48) = false := by simp; omega
  go_enter Tryz.func71, Tryz.ntmps71
  go_wp2
  go_loop [4] (fun i => ∃ k : Nat, k ≤ s.size ∧ i = .int .i64 k ∧ DigTo s k) (fun i => s.size - (intOf i).toNat)
  case atStart => exact ⟨0, Nat.zero_le _, rfl, digTo_zero _⟩
  case round =>
    obtain ⟨k, hk, rfl, hd⟩ := hrel
    have HD : Hid (DigTo s k) := hd
    clear hd
    by_cases hlt : k < s.size
    · by_cases c1 : s[k].toNat < 48
      · have b1 : decide ((s[k].toNat : Int) < 48) = true := by simp; omega
        have HN : Hid (_ = _) := not_all hlt (.inl c1)
        go_wp2
        go_ret
        exact ⟨retB (by rw [HF.out, HN.out]), rfl⟩
      · have b1 : decide ((s[k].toNat : Int) < 48) = false := by simp; omega
        by_cases c2 : 57 < s[k].toNat
        · have b2 : decide ((57 : Int) < (s[k].toNat : Int)) = true := by simp; omega
          have HN : Hid (_ = _) := not_all hlt (.inr c2)
          go_wp2
          go_ret
          exact ⟨retB (by rw [HF.out, HN.out]), rfl⟩
        · have b2 : decide ((57 : Int) < (s[k].toNat : Int)) = false := by simp; omega
          have HN : Hid (DigTo s (k + 1)) := digTo_succ HD.out hlt (by omega) (by omega)
          go_wp2
          go_round
          case rel => exact ⟨k + 1, by omega, by go_num, HN.out⟩
          case measure => simp [intOf]; omega
    · have e : k = s.size := by omega
      subst e
      have HN : Hid (_ = _) := digTo_all HD.out
      go_wp2
      go_ret
      exact ⟨retB (by rw [HF.out, HN.out]), rfl⟩
theorem isNum_any (s : ByteArray) (w : World) (hs : s.size ≤ 281474976710656) :
    Calls Tryz.prog 71 #[.string s] w fun e w' => e = .returned (.bool (numForm s.toList)) ∧ w' = w := by
  by_cases h : 0 < s.size
  · by_cases h1 : s[0].toNat = 45
    · by_cases h2 : 0 < (s.extract 1 s.size).size
      · by_cases h3 : (s.extract 1 s.size)[0].toNat = 48
        · obtain ⟨f1, f2⟩ := ((form_minus h h1).2 h2).1 h3
          rw [f1]
          have a1 : s.toList.isEmpty = false := by rw [list_cons s h]; rfl
          have a2 : ((s[0].toNat : Int) == 45) = true := by simp; omega
          have a3 : (s.extract 1 s.size).toList.isEmpty = false := by rw [list_cons _ h2]; rfl
          have a4 : (((s.extract 1 s.size)[0].toNat : Int) == 48) = true := by simp; omega
          have h2' : 0 < s.size - 1 := by simpa using h2
          go_enter Tryz.func71, Tryz.ntmps71
          go_wp2
          go_ret
          exact ⟨rfl, rfl⟩
        · exact isNum_minus s w hs h h1 h2 h3
      · have e1 : s.size = 1 := by simp at h2; omega
        rw [(form_minus h h1).1 e1]
        have a1 : s.toList.isEmpty = false := by rw [list_cons s h]; rfl
        have a2 : ((s[0].toNat : Int) == 45) = true := by simp; omega
        have a3 : (s.extract 1 s.size).toList.isEmpty = true := by
          have : (s.extract 1 s.size).toList = [] := List.eq_nil_of_length_eq_zero (by rw [list_tail, List.length_drop, list_len]; omega)
          rw [this]; rfl
        have E1 : Hid (s.size = 1) := e1
        clear e1 h2
        go_enter Tryz.func71, Tryz.ntmps71
        go_wp2
        go_ret
        exact ⟨rfl, rfl⟩
    · by_cases h3 : s[0].toNat = 48
      · rw [(form_plain h h1).1 h3]
        have a1 : s.toList.isEmpty = false := by rw [list_cons s h]; rfl
        have a2 : ((s[0].toNat : Int) == 45) = false := by simp; omega
        have a4 : ((s[0].toNat : Int) == 48) = true := by simp; omega
        go_enter Tryz.func71, Tryz.ntmps71
        go_wp2
        go_ret
        exact ⟨rfl, rfl⟩
      · exact isNum_plain s w hs h h1 h3
  · have h0 : s.size = 0 := by omega
    rw [form_nil h0]
    have e : s.toList = [] := List.eq_nil_of_length_eq_zero (by rw [list_len]; exact h0)
    have a1 : s.toList.isEmpty = true := by rw [e]; rfl
    clear h h0
    go_enter Tryz.func71, Tryz.ntmps71
    go_wp2
    go_ret
    exact ⟨rfl, rfl⟩
end Go.Proofs.YtchbhmolnoggfaaGreatDoor

namespace Go.Proofs.YtchbhmolnoggfaaGreatDoor
open Go.ChangeShapes Go.WideShapes Go.ChangeAt Go.RowKit
theorem prs_bad {l : List UInt8} (h : numForm l = false) : prsV l = 0 ∧ prsE l = 12 := by
  unfold prsV prsE; rw [if_neg (by simp [h]), if_neg (by simp [h])]; exact ⟨rfl, rfl⟩
theorem prs_ok {l : List UInt8} (h : numForm l = true) (h2 : natv 0 (digs l) ≤ lim l) : prsE l = 0 := by
  unfold prsE; rw [if_pos h, if_pos h2]
theorem prs_range {l : List UInt8} (h : numForm l = true) (h2 : ¬ natv 0 (digs l) ≤ lim l) : prsV l = 0 ∧ prsE l = 13 := by
  unfold prsV prsE; rw [if_neg (fun k => h2 k.2), if_pos h, if_neg h2]; exact ⟨rfl, rfl⟩
def ErrIs (w : World) : Prop := ∃ tp p, w.var? Tryz.prog "strconv.ErrRange" = some #[.iface tp p]
set_option maxHeartbeats 1000000 in
theorem parse_any (s : ByteArray) (w : World) (hs : s.size ≤ 281474976710656) (hv : ErrIs w) :
    Calls Tryz.prog 61 #[.string s] w fun e w' => e = .returned (.tuple #[.int .i64 (prsV s.toList), .int .i64 (prsE s.toList)]) ∧ Below w.heap.size w w' := by
  cases hf : numForm s.toList
  · rw [(prs_bad hf).1, (prs_bad hf).2]
    go_enter Tryz.func61, Tryz.ntmps61
    go_wp2_with (go_at_call 71; refine (isNum_any _ _ hs).mono ?_; rintro e w' ⟨rfl, rfl⟩)
    go_ret2
    exact ⟨rfl, Below.refl _ _⟩
  · have hp := parseInt_form hf
    by_cases hl : natv 0 (digs s.toList) ≤ lim s.toList
    · rw [if_pos hl, list_of] at hp
      rw [prs_ok hf hl]
      have HP : Hid (_ = _) := hp
      clear hp hl
      go_enter Tryz.func61, Tryz.ntmps61
      go_wp2_with (go_at_call 71; refine (isNum_any _ _ hs).mono ?_; rintro e w' ⟨rfl, rfl⟩)
      refine (Tryz.strconv_ParseInt_10_at64_ok s (by omega) _ HP.out _).mono ?_
      rintro e w1 ⟨rfl, hw⟩
      have hb : Below w'.heap.size w' w1 := by
        rcases hw with rfl | ⟨t, rfl⟩
        · exact Below.refl _ _
        · exact Lib.bytesWorld_below _ _ _
      clear hw
      go_wp2
      go_ret2
      exact ⟨by rw [list_of]; rfl, hb⟩
    · rw [if_neg hl, list_of] at hp
      rw [(prs_range hf hl).1, (prs_range hf hl).2]
      obtain ⟨tp, p, hv⟩ := hv
      have HP : Hid (_ = _) := hp
      have HV : Hid (_ = _) := hv
      clear hp hl hv
      go_enter Tryz.func61, Tryz.ntmps61
      go_wp2_with (go_at_call 71; refine (isNum_any _ _ hs).mono ?_; rintro e w' ⟨rfl, rfl⟩)
      refine (Tryz.strconv_ParseInt_10_at64_range_var s hs HP.out tp p _ HV.out).mono ?_
      rintro e w1 ⟨N, rfl, _, _, hb⟩
      go_wp2
      go_ret2
      exact ⟨rfl, hb⟩
end Go.Proofs.YtchbhmolnoggfaaGreatDoor

namespace Go.Proofs.YtchbhmolnoggfaaGreatDoor
open Go.RowKit
attribute [local go_sem] Oper.semAt_some run_store_nf run_store_f
theorem Keeps.ofBelow {w w' : World} (h : Below w.heap.size w w') : Keeps (fun _ => False) w w' := ⟨h.os, h.tape, h.output, h.size, fun k hk _ => h.block k hk⟩
structure Pc where
  t : ByteArray
  ln : Int
  col : Int
def Pc.cells (p : Pc) : List Value := [.string p.t, .int .i64 p.ln, .int .i64 p.col]
structure PT (w : World) : Prop where
  lt : LT w
  er : ErrIs w
  mx : ∃ m : Int, w.cell? ⟨2, 0, none⟩ = some (.int .i64 m)
theorem gER : Tryz.prog.globalNamed "strconv.ErrRange" = some 7 := by kernel_rfl
theorem errIs_keep {w w' : World} (h : ErrIs w) (k : Keeps (fun _ => False) w w') : ErrIs w' := by
  obtain ⟨tp, p, hv⟩ := h
  exact ⟨tp, p, Go.Joins.var_stays gER hv (k.below (Nat.le_refl _) (fun _ _ e => e)) (Nat.le_refl _)⟩
theorem PT.keep {w w' : World} (h : PT w) (k : Keeps (fun _ => False) w w') : PT w' := ⟨h.lt.keep k, errIs_keep h.er k, by obtain ⟨m, hm⟩ := h.mx; exact ⟨m, k.cell hm (fun e => e)⟩⟩
def tp (t : ByteArray) (c : UInt8) : ByteArray := ⟨(Lib.trimPrefix t.data.toList [c]).toArray⟩
theorem tp_size (t : ByteArray) (c : UInt8) : (tp t c).size ≤ t.size := by
  have := Lib.trimPrefix_le t.data.toList [c]
  show (Lib.trimPrefix t.data.toList [c]).toArray.size ≤ t.data.size
  simpa using this
def hp (t : ByteArray) (c : UInt8) : Bool := Lib.hasPrefix t.data.toList [c]
def regN (t : ByteArray) : Int := prsV (tp t 114).toList
def regB (t : ByteArray) : Bool := hp t 114 && (prsE (tp t 114).toList == 0) && rg (regN t)
theorem need_ok (w : World) (t : ByteArray) (ln col : Int) : Calls Tryz.prog 50 #[.agg #[.string t, .int .i64 ln, .int .i64 col], .bool true] w fun e w' => e = .returned (.tuple #[]) ∧ Keeps (fun _ => False) w w' := by
  go_enter Tryz.func50, Tryz.ntmps50
  go_wp2
  go_end0
  exact ⟨rfl, (Keeps.refl _ w).alloc _⟩
set_option maxHeartbeats 500000 in
theorem register_any {w : World} (t : ByteArray) (hs : t.size ≤ 4096) (hv : ErrIs w) : Calls Tryz.prog 59 #[.string t] w fun e w' => e = .returned (.tuple #[.int .i64 (regN t), .bool (regB t)]) ∧ Keeps (fun _ => False) w w' := by
  have hC : ∀ W, Calls Tryz.prog 60 #[.string t, .string ⟨#[114]⟩] W fun e w' => e = .returned (.tuple #[.string (tp t 114), .bool (hp t 114)]) ∧ w' = W := fun W => Tryz.strings_CutPrefix t ⟨#[114]⟩ W
  have hP := parse_any (tp t 114) w (by have := tp_size t 114; omega) hv
  have hR := fun W => isReg_any W (regN t)
  unfold regB
  have hN : Hid (regN t = prsV (tp t 114).toList) := rfl
  rw [← hN.out] at hP
  generalize regN t = n at *
  generalize rg n = g at *
  generalize prsE (tp t 114).toList = pe at *
  generalize tp t 114 = t1 at *
  generalize hp t 114 = h1 at *
  cases h1 <;> cases hpe : (pe == 0) <;> cases g <;>
  (go_enter Tryz.func59, Tryz.ntmps59
   go_wp2_with (first | (go_at_call 60; refine (hC _).mono ?_; rintro e w' ⟨rfl, rfl⟩) | (go_at_call 61; refine hP.mono ?_; rintro e w1 ⟨rfl, b1⟩) | (go_at_call 69; refine (hR _).mono ?_; rintro e w' ⟨rfl, rfl⟩))
   go_ret2
   exact ⟨rfl, .ofBelow b1⟩)
end Go.Proofs.YtchbhmolnoggfaaGreatDoor

namespace Go.Proofs.YtchbhmolnoggfaaGreatDoor
open Go.ChangeShapes Go.WideShapes Go.ChangeAt Go.RowKit
set_option maxHeartbeats 1000000 in
theorem opNamed_any (s : ByteArray) (w : World) (hc : Hid (∀ i, i < 13 → w.cell? ⟨1, i, none⟩ = some (.string (opT i)))) :
    Calls Tryz.prog 45 #[.string s] w fun e w' => e = .returned (.tuple #[.int .i64 ((look opT s 1 12 : Nat) : Int), .int .i64 (lookE 10 (look opT s 1 12))]) ∧ w' = w := by
  go_enter Tryz.func45, Tryz.ntmps45
  go_wp2
  go_loop [4] (fun i => ∃ k : Nat, 1 ≤ k ∧ k ≤ 13 ∧ i = .int .i64 k ∧ look opT s 1 12 = look opT s k (13 - k)) (fun i => 13 - (intOf i).toNat)
  case atStart => exact ⟨1, by omega, by omega, rfl, rfl⟩
  case round =>
    obtain ⟨k, k1, k2, rfl, hl⟩ := hrel
    by_cases hlt : k < 13
    · have c1 := hc.out k hlt
      have e1 : 13 - k = (12 - k) + 1 := by omega
      rw [e1] at hl
      have HL : Hid (_ = _) := hl
      clear hl e1
      cases hm : ((opT k).toList == s.toList)
      · have HN : Hid (look opT s 1 12 = look opT s (k + 1) (13 - (k + 1))) := by
          show _ = _
          rw [HL.out, look_miss _ _ _ _ hm, show 13 - (k + 1) = 12 - k by omega]
        go_wp2
        go_round
        case rel => exact ⟨k + 1, by omega, by omega, by go_num, HN.out⟩
        case measure => simp [intOf]; omega
      · have HN : Hid (look opT s 1 12 = k) := by
          show _ = _
          rw [HL.out, look_hit _ _ _ _ hm]
        go_wp2
        go_ret2
        refine ⟨?_, rfl⟩
        rw [HN.out, show lookE 10 k = 0 from if_neg (by omega)]
        rfl
    · have e1 : k = 13 := by omega
      subst e1
      have HN : Hid (look opT s 1 12 = 0) := hl
      clear hl
      go_wp2
      go_ret2
      refine ⟨?_, rfl⟩
      rw [HN.out]
      rfl
set_option maxHeartbeats 1000000 in
theorem relNamed_any (s : ByteArray) (w : World) (hc : Hid (∀ i, i < 7 → w.cell? ⟨3, i, none⟩ = some (.string (relT i)))) :
    Calls Tryz.prog 62 #[.string s] w fun e w' => e = .returned (.tuple #[.int .i64 ((look relT s 1 6 : Nat) : Int), .int .i64 (lookE 11 (look relT s 1 6))]) ∧ w' = w := by
  go_enter Tryz.func62, Tryz.ntmps62
  go_wp2
  go_loop [4] (fun i => ∃ k : Nat, 1 ≤ k ∧ k ≤ 7 ∧ i = .int .i64 k ∧ look relT s 1 6 = look relT s k (7 - k)) (fun i => 7 - (intOf i).toNat)
  case atStart => exact ⟨1, by omega, by omega, rfl, rfl⟩
  case round =>
    obtain ⟨k, k1, k2, rfl, hl⟩ := hrel
    by_cases hlt : k < 7
    · have c1 := hc.out k hlt
      have e1 : 7 - k = (6 - k) + 1 := by omega
      rw [e1] at hl
      have HL : Hid (_ = _) := hl
      clear hl e1
      cases hm : ((relT k).toList == s.toList)
      · have HN : Hid (look relT s 1 6 = look relT s (k + 1) (7 - (k + 1))) := by
          show _ = _
          rw [HL.out, look_miss _ _ _ _ hm, show 7 - (k + 1) = 6 - k by omega]
        go_wp2
        go_round
        case rel => exact ⟨k + 1, by omega, by omega, by go_num, HN.out⟩
        case measure => simp [intOf]; omega
      · have HN : Hid (look relT s 1 6 = k) := by
          show _ = _
          rw [HL.out, look_hit _ _ _ _ hm]
        go_wp2
        go_ret2
        refine ⟨?_, rfl⟩
        rw [HN.out, show lookE 11 k = 0 from if_neg (by omega)]
        rfl
    · have e1 : k = 7 := by omega
      subst e1
      have HN : Hid (look relT s 1 6 = 0) := hl
      clear hl
      go_wp2
      go_ret2
      refine ⟨?_, rfl⟩
      rw [HN.out]
      rfl
end Go.Proofs.YtchbhmolnoggfaaGreatDoor

namespace Go.Proofs.YtchbhmolnoggfaaGreatDoor
open Go.RowKit
attribute [local go_sem] Oper.semAt_some run_store_nf run_store_f
theorem made1 (w : World) (l : List Value) (t : TypeId) (o : Obj) (hl : 0 < l.length) : CL ((w.alloc (.cells l.toArray t)).alloc o) w.heap.size l := (CL.made w l t).alloc hl o
theorem made2 (w : World) (l : List Value) (t : TypeId) (o : Obj) : CL ((w.alloc o).alloc (.cells l.toArray t)) (w.heap.size + 1) l := by
  have h := CL.made (w.alloc o) l t
  simpa using h
theorem ks2 (w : World) (o o' : Obj) : Keeps (fun _ => False) w ((w.alloc o).alloc o') := ((Keeps.refl _ w).alloc o).alloc o'
def src (t : ByteArray) : Option (Bool × Int) := if regB t = true then some (true, regN t) else if prsE t.toList = 0 then some (false, prsV t.toList) else none
def objO (t : ByteArray) : Option (Bool × Int) := if hp t 64 = true then src (tp t 64) else none
set_option maxHeartbeats 500000 in
set_option maxRecDepth 100000 in
theorem source_ok {w : World} (pt : ByteArray) (ln col : Int) (t : ByteArray) (hs : t.size ≤ 4096) (hv : ErrIs w) {r : Bool} {n : Int} (h : src t = some (r, n)) : Calls Tryz.prog 48 #[.agg #[.string pt, .int .i64 ln, .int .i64 col], .string t] w fun e w' => e = .returned (.agg #[.bool r, .int .i64 n]) ∧ Keeps (fun _ => False) w w' := by
  have hR := fun W (k : Keeps (fun _ => False) w W) => register_any (w := W) t hs (errIs_keep hv k)
  have hP := fun W (k : Keeps (fun _ => False) w W) => parse_any t W (by omega) (errIs_keep hv k)
  have hN := fun W => need_ok W pt ln col
  have m1 := made1 w [.string pt, .int .i64 ln, .int .i64 col] 73 (.cells #[.bool false, .int .i64 0] 61) (by show 0 < 3; decide)
  have m2 := made2 w [.bool false, .int .i64 0] 61 (.cells #[.string pt, .int .i64 ln, .int .i64 col] 73)
  have k2 := ks2 w (.cells #[.string pt, .int .i64 ln, .int .i64 col] 73) (.cells #[.bool false, .int .i64 0] 61)
  unfold src at h
  by_cases hb : regB t = true
  · rw [if_pos hb] at h
    rw [hb] at hR
    obtain ⟨rfl, rfl⟩ : r = true ∧ n = regN t := by simpa [eq_comm] using h
    clear h hP
    generalize regN t = n at *
    go_enter Tryz.func48, Tryz.ntmps48
    go_wp2_with (go_at_call 59; refine (hR _ k2).mono ?_; rintro e w1 ⟨rfl, k1⟩; have c2 := m2.keep (by show 0 < 2; decide) k1 (fun e => e); have x0 := c2.c 0 _ rfl; have x1 := c2.c 1 _ rfl; have z0 := c2.z 0 (by show 0 < 2; decide); have z1 := c2.z 1 (by show 1 < 2; decide))
    refine bodyPost_ret (v := .agg #[.bool true, .int .i64 n]) (by rw [results_cell1 rfl]; go_simp) rfl ⟨rfl, ?_⟩
    exact ((k2.trans k1).setCell (fun h => absurd h (by show ¬ (w.heap.size + 1 < w.heap.size); omega)) _).setCell (fun h => absurd h (by show ¬ (w.heap.size + 1 < w.heap.size); omega)) _
  · rw [if_neg hb] at h
    have hb : regB t = false := by simpa using hb
    rw [hb] at hR
    by_cases he : prsE t.toList = 0
    · rw [if_pos he] at h
      rw [he] at hP
      obtain ⟨rfl, rfl⟩ : r = false ∧ n = prsV t.toList := by simpa [eq_comm] using h
      clear h
      generalize regN t = n' at *
      generalize prsV t.toList = n at *
      go_enter Tryz.func48, Tryz.ntmps48
      go_wp2_with (first | (go_at_call 59; refine (hR _ k2).mono ?_; rintro e w1 ⟨rfl, k1⟩; have K1 := k2.trans k1; have C2 := m2.keep (by show 0 < 2; decide) k1 (fun e => e); have C1 := m1.keep (by show 0 < 3; decide) k1 (fun e => e); clear hR k1 m1 m2 k2) | (go_at_call 61; refine (hP _ K1).mono ?_; rintro e w3 ⟨rfl, b3⟩; have k3 := Keeps.ofBelow b3; clear b3; have K3 := K1.trans k3; have D2 := C2.keep (by show 0 < 2; decide) k3 (fun e => e); have D1 := C1.keep (by show 0 < 3; decide) k3 (fun e => e); have y0 := D1.c 0 _ rfl; have y1 := D1.c 1 _ rfl; have y2 := D1.c 2 _ rfl; clear hP K1 C1 C2 k3) | (go_at_call 50; refine (hN _).mono ?_; rintro e w4 ⟨rfl, k4⟩; have K4 := K3.trans k4; have c2 := D2.keep (by show 0 < 2; decide) k4 (fun e => e); have x0 := c2.c 0 _ rfl; have x1 := c2.c 1 _ rfl; have z0 := c2.z 0 (by show 0 < 2; decide); have z1 := c2.z 1 (by show 1 < 2; decide); clear hN K3 D1 D2 k4))
      refine bodyPost_ret (v := .agg #[.bool false, .int .i64 n]) (by rw [results_cell1 rfl]; go_simp) rfl ⟨rfl, ?_⟩
      exact (K4.setCell (fun h => absurd h (by show ¬ (w.heap.size + 1 < w.heap.size); omega)) _).setCell (fun h => absurd h (by show ¬ (w.heap.size + 1 < w.heap.size); omega)) _
    · rw [if_neg he] at h; cases h
set_option maxHeartbeats 500000 in
set_option maxRecDepth 100000 in
theorem object_ok {w : World} (t : ByteArray) (ln col : Int) (hs : t.size ≤ 4096) (hv : ErrIs w) {r : Bool} {n : Int} (h : objO t = some (r, n)) : Calls Tryz.prog 47 #[.agg #[.string t, .int .i64 ln, .int .i64 col]] w fun e w' => e = .returned (.agg #[.bool r, .int .i64 n]) ∧ Keeps (fun _ => False) w w' := by
  unfold objO at h
  by_cases hb : hp t 64 = true
  · rw [if_pos hb] at h
    have hC : ∀ W, Calls Tryz.prog 60 #[.string t, .string ⟨#[64]⟩] W fun e w' => e = .returned (.tuple #[.string (tp t 64), .bool (hp t 64)]) ∧ w' = W := fun W => Tryz.strings_CutPrefix t ⟨#[64]⟩ W
    rw [hb] at hC
    have hS := fun W (k : Keeps (fun _ => False) w W) => source_ok (w := W) t ln col (tp t 64) (by have := tp_size t 64; omega) (errIs_keep hv k) h
    have hN := fun W => need_ok W t ln col
    have m1 := made1 w [.string t, .int .i64 ln, .int .i64 col] 73 (.cells #[.bool false, .int .i64 0] 61) (by show 0 < 3; decide)
    have m2 := made2 w [.bool false, .int .i64 0] 61 (.cells #[.string t, .int .i64 ln, .int .i64 col] 73)
    have k2 := ks2 w (.cells #[.string t, .int .i64 ln, .int .i64 col] 73) (.cells #[.bool false, .int .i64 0] 61)
    clear h
    generalize tp t 64 = t1 at *
    go_enter Tryz.func47, Tryz.ntmps47
    go_wp2_with (first | (go_at_call 60; refine (hC _).mono ?_; rintro e w' ⟨rfl, rfl⟩; clear hC) | (go_at_call 50; refine (hN _).mono ?_; rintro e w4 ⟨rfl, k4⟩; have K4 := k2.trans k4; have D1 := m1.keep (by show 0 < 3; decide) k4 (fun e => e); have D2 := m2.keep (by show 0 < 2; decide) k4 (fun e => e); have y0 := D1.c 0 _ rfl; have y1 := D1.c 1 _ rfl; have y2 := D1.c 2 _ rfl; clear hN m1 m2 k4 k2) | (go_at_call 48; refine (hS _ K4).mono ?_; rintro e w5 ⟨rfl, k5⟩; have K5 := K4.trans k5; have c2 := D2.keep (by show 0 < 2; decide) k5 (fun e => e); have x0 := c2.c 0 _ rfl; have x1 := c2.c 1 _ rfl; have z0 := c2.z 0 (by show 0 < 2; decide); have z1 := c2.z 1 (by show 1 < 2; decide); clear hS K4 D1 D2 k5))
    refine bodyPost_ret (v := .agg #[.bool r, .int .i64 n]) (by rw [results_cell1 rfl]; go_simp) rfl ⟨rfl, ?_⟩
    exact (K5.setCell (fun h => absurd h (by show ¬ (w.heap.size + 1 < w.heap.size); omega)) _).setCell (fun h => absurd h (by show ¬ (w.heap.size + 1 < w.heap.size); omega)) _
  · rw [if_neg hb] at h; cases h
set_option maxHeartbeats 500000 in
set_option maxRecDepth 100000 in
theorem regm_ok {w : World} (t : ByteArray) (ln col : Int) (hs : t.size ≤ 4096) (hv : ErrIs w) (hb : regB t = true) : Calls Tryz.prog 46 #[.agg #[.string t, .int .i64 ln, .int .i64 col]] w fun e w' => e = .returned (.int .i64 (regN t)) ∧ Keeps (fun _ => False) w w' := by
  have hR := fun W (k : Keeps (fun _ => False) w W) => register_any (w := W) t hs (errIs_keep hv k)
  rw [hb] at hR
  have hN := fun W => need_ok W t ln col
  have m1 := CL.made w [.string t, .int .i64 ln, .int .i64 col] 73
  have k2 : Keeps (fun _ => False) w (w.alloc (.cells #[.string t, .int .i64 ln, .int .i64 col] 73)) := (Keeps.refl _ w).alloc _
  generalize regN t = n at *
  go_enter Tryz.func46, Tryz.ntmps46
  go_wp2_with (first | (go_at_call 59; refine (hR _ k2).mono ?_; rintro e w1 ⟨rfl, k1⟩; have K1 := k2.trans k1; have C1 := m1.keep (by show 0 < 3; decide) k1 (fun e => e); have y0 := C1.c 0 _ rfl; have y1 := C1.c 1 _ rfl; have y2 := C1.c 2 _ rfl; clear hR k1 m1 k2) | (go_at_call 50; refine (hN _).mono ?_; rintro e w4 ⟨rfl, k4⟩; have K4 := K1.trans k4; clear hN k4 K1))
  go_ret
  exact ⟨rfl, K4⟩
end Go.Proofs.YtchbhmolnoggfaaGreatDoor

