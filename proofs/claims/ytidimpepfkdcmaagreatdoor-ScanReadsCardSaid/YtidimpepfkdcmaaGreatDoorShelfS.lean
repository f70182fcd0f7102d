/- Proved here: at this program, the library's contracts that the scanner uses (bytes.Cut, bytes.Count, bytes.TrimPrefix, strings.CutPrefix, strings.EqualFold); each is one application of the library's own theorem. -/
import Derived.Shelf.Lays
import Derived.Shelf.SlLaysT
import Derived.Shelf.SlLaysB
import Derived.Shelf.Bytes.SlCut
import Derived.Shelf.Bytes.SlCountOne
import Derived.Shelf.Bytes.SlSmallAll
import Derived.Shelf.Small.Wraps
import Derived.Shelf.Strings.Fold
import Derived.Test.YtidimpepfkdcmaaGreatDoorProg
namespace Go.Proofs
open Go.Shelf
def Tryz.laysCut_ren : Go.Shelf.Ren := ⟨fun | 4 => 71 | 5 => 92 | 6 => 105 | 7 => 55 | 8 => 106 | 9 => 107 | 10 => 108 | 11 => 116 | 12 => 117 | n => n, fun | 22 => 22 | 4 => 4 | 3 => 3 | 0 => 0 | 5 => 5 | 29 => 103 | 9 => 9 | 31 => 145 | 30 => 139 | n => n, fun | 0 => 5 | n => n⟩
theorem Tryz.laysCut : Go.Proofs.SlLaysT.n4 Tryz.prog Tryz.laysCut_ren := {
  mixed := by kernel_rfl
  f4 := Tryz.func71.trans (congrArg some (by kernel_rfl))
  f5 := Tryz.func92.trans (congrArg some (by kernel_rfl))
  f6 := Tryz.func105.trans (congrArg some (by kernel_rfl))
  f7 := Tryz.func55.trans (congrArg some (by kernel_rfl))
  f8 := Tryz.func106.trans (congrArg some (by kernel_rfl))
  f9 := Tryz.func107.trans (congrArg some (by kernel_rfl))
  f10 := Tryz.func108.trans (congrArg some (by kernel_rfl))
  f11 := Tryz.func116.trans (congrArg some (by kernel_rfl))
  f12 := Tryz.func117.trans (congrArg some (by kernel_rfl))
  t0 := Tryz.underlying0
  a0 := Tryz.isAgg0
  z0 := Tryz.sizeOf0
  v0 := Tryz.zeroValue0
  t3 := Tryz.underlying3
  a3 := Tryz.isAgg3
  z3 := Tryz.sizeOf3
  v3 := Tryz.zeroValue3
  t4 := Tryz.underlying4
  a4 := Tryz.isAgg4
  z4 := Tryz.sizeOf4
  v4 := Tryz.zeroValue4
  t5 := Tryz.underlying5
  a5 := Tryz.isAgg5
  z5 := Tryz.sizeOf5
  v5 := Tryz.zeroValue5
  t9 := Tryz.underlying9
  a9 := Tryz.isAgg9
  z9 := Tryz.sizeOf9
  v9 := Tryz.zeroValue9
  t22 := Tryz.underlying22
  a22 := Tryz.isAgg22
  z22 := Tryz.sizeOf22
  v22 := Tryz.zeroValue22
  t29 := Tryz.underlying103
  a29 := Tryz.isAgg103
  z29 := Tryz.sizeOf103
  v29 := Tryz.zeroValue103
  t30 := Tryz.underlying139
  a30 := Tryz.isAgg139
  z30 := Tryz.sizeOf139
  v30 := Tryz.zeroValue139
  t31 := Tryz.underlying145
  a31 := Tryz.isAgg145
  z31 := Tryz.sizeOf145
  v31 := Tryz.zeroValue145
  g0 := by kernel_rfl }
open Go.RowKit Go.Lib in
theorem Tryz.bytes_Cut (p1 p2 : Option Addr) (n c1 k c2 : Nat) (xs ys : List Int) (m : Int) (w : World) (hx : xs.length = n) (hy : ys.length = k) (hr1 : ∀ x ∈ xs, 0 ≤ x ∧ x < 256) (hr2 : ∀ y ∈ ys, 0 ≤ y ∧ y < 256) (h1 : Lib.BytesIn w p1 n xs) (h2 : Lib.BytesIn w p2 k ys) (hp1 : p1 = none → c1 = 0) (hcap : n ≤ c1) (hs : n < 4294967281) (hk : k ≤ 9223372036854775807) (hm : w.cell? ⟨5, 0, none⟩ = some (.int .i64 m)) :
    Calls Tryz.prog 71 #[.slice p1 n c1, .slice p2 k c2] w fun e w' => e = .returned (Lib.cutV p1 n c1 k (Lib.index (Lib.bytesOf xs) (Lib.bytesOf ys))) ∧ ∃ q, w' = w.drewN q := Any.bytes_Cut_all Tryz.laysCut p1 p2 n c1 k c2 xs ys m w hx hy hr1 hr2 h1 h2 hp1 hcap hs hk hm
def Tryz.laysCount_ren : Go.Shelf.Ren := ⟨fun | 13 => 73 | 24 => 95 | 25 => 96 | 12 => 92 | 31 => 112 | 19 => 105 | 20 => 55 | 21 => 106 | 22 => 107 | 23 => 108 | 29 => 116 | 30 => 117 | n => n, fun | 22 => 22 | 3 => 3 | 4 => 4 | 0 => 0 | 5 => 5 | 9 => 9 | 33 => 103 | 40 => 145 | 39 => 139 | n => n, fun | 0 => 5 | n => n⟩
theorem Tryz.laysCount : Go.Proofs.SlLaysB.n13 Tryz.prog Tryz.laysCount_ren := {
  mixed := by kernel_rfl
  f13 := Tryz.func73.trans (congrArg some (by kernel_rfl))
  f25 := Tryz.func96.trans (congrArg some (by kernel_rfl))
  t0 := Tryz.underlying0
  a0 := Tryz.isAgg0
  z0 := Tryz.sizeOf0
  v0 := Tryz.zeroValue0
  t3 := Tryz.underlying3
  a3 := Tryz.isAgg3
  z3 := Tryz.sizeOf3
  v3 := Tryz.zeroValue3
  t4 := Tryz.underlying4
  a4 := Tryz.isAgg4
  z4 := Tryz.sizeOf4
  v4 := Tryz.zeroValue4
  t5 := Tryz.underlying5
  a5 := Tryz.isAgg5
  z5 := Tryz.sizeOf5
  v5 := Tryz.zeroValue5
  t22 := Tryz.underlying22
  a22 := Tryz.isAgg22
  z22 := Tryz.sizeOf22
  v22 := Tryz.zeroValue22 }
open Go.RowKit Go.Lib in
theorem Tryz.bytes_Count_one (b o n c b2 o2 d : Nat) (xs : List Int) (cv : Int) (w : World) (hx : xs.length = n) (hc : ∀ i, i < n → w.cell? ⟨b, o + i, none⟩ = some (.int .u8 (xs.getD i 0))) (hc2 : w.cell? ⟨b2, o2, none⟩ = some (.int .u8 cv)) :
    Calls Tryz.prog 73 #[.slice (some ⟨b, o, none⟩) n c, .slice (some ⟨b2, o2, none⟩) 1 d] w fun e w' => e = .returned (.int .i64 (Lib.countByte (Lib.bytesOf xs) cv.toNat.toUInt8)) ∧ w' = w := Any.bytes_Count_one Tryz.laysCount b o n c b2 o2 d xs cv w hx hc hc2
def Tryz.laysTrim_ren : Go.Shelf.Ren := ⟨fun | 139 => 19 | 116 => 35 | 115 => 55 | n => n, fun | 37 => 22 | 4 => 4 | 3 => 3 | 9 => 9 | 5 => 5 | n => n, fun | n => n⟩
theorem Tryz.laysTrim : Go.Proofs.Lays.nb139 Tryz.prog Tryz.laysTrim_ren := {
  mixed := by kernel_rfl
  f115 := Tryz.func55.trans (congrArg some (by kernel_rfl))
  f116 := Tryz.func35.trans (congrArg some (by kernel_rfl))
  f139 := Tryz.func19.trans (congrArg some (by kernel_rfl))
  t3 := Tryz.underlying3
  a3 := Tryz.isAgg3
  z3 := Tryz.sizeOf3
  v3 := Tryz.zeroValue3
  t4 := Tryz.underlying4
  a4 := Tryz.isAgg4
  z4 := Tryz.sizeOf4
  v4 := Tryz.zeroValue4
  t9 := Tryz.underlying9
  a9 := Tryz.isAgg9
  z9 := Tryz.sizeOf9
  v9 := Tryz.zeroValue9
  t37 := Tryz.underlying22
  a37 := Tryz.isAgg22
  z37 := Tryz.sizeOf22
  v37 := Tryz.zeroValue22
  t5 := Tryz.underlying5
  a5 := Tryz.isAgg5
  z5 := Tryz.sizeOf5
  v5 := Tryz.zeroValue5 }
open Go.RowKit Go.Lib in
theorem Tryz.bytes_TrimPrefix (p1 p2 : Option Addr) (n c m d : Nat) (xs ys : List Int) (w : World) (hx : xs.length = n) (hy : ys.length = m) (hnc : n ≤ c) (h1 : Lib.BytesIn w p1 n xs) (h2 : Lib.BytesIn w p2 m ys) :
    Calls Tryz.prog 19 #[.slice p1 n c, .slice p2 m d] w fun e w' => e = .returned (Lib.trimPrefixV p1 n c xs ys) ∧ w' = w := Any.bytes_TrimPrefix_all Tryz.laysTrim p1 p2 n c m d xs ys w hx hy hnc h1 h2
def Tryz.laysCutPrefix_ren : Go.Shelf.Ren := ⟨fun | 103 => 80 | 210 => 97 | 206 => 113 | n => n, fun | 9 => 9 | 4 => 4 | 24 => 108 | 3 => 3 | n => n, fun | n => n⟩
theorem Tryz.laysCutPrefix : Go.Proofs.Lays.n103 Tryz.prog Tryz.laysCutPrefix_ren := {
  mixed := by kernel_rfl
  f103 := Tryz.func80.trans (congrArg some (by kernel_rfl))
  f206 := Tryz.func113.trans (congrArg some (by kernel_rfl))
  f210 := Tryz.func97.trans (congrArg some (by kernel_rfl))
  t3 := Tryz.underlying3
  a3 := Tryz.isAgg3
  z3 := Tryz.sizeOf3
  v3 := Tryz.zeroValue3
  t4 := Tryz.underlying4
  a4 := Tryz.isAgg4
  z4 := Tryz.sizeOf4
  v4 := Tryz.zeroValue4
  t9 := Tryz.underlying9
  a9 := Tryz.isAgg9
  z9 := Tryz.sizeOf9
  v9 := Tryz.zeroValue9
  t24 := Tryz.underlying108
  a24 := Tryz.isAgg108
  z24 := Tryz.sizeOf108
  v24 := Tryz.zeroValue108 }
open Go.RowKit Go.Lib in
theorem Tryz.strings_CutPrefix (s p : ByteArray) (w : World) :
    Calls Tryz.prog 80 #[.string s, .string p] w fun e w' => e = .returned (.tuple #[.string ⟨(Lib.trimPrefix s.data.toList p.data.toList).toArray⟩, .bool (Lib.hasPrefix s.data.toList p.data.toList)]) ∧ w' = w := Any.strings_CutPrefix Tryz.laysCutPrefix s p w
def Tryz.laysFold_ren : Go.Shelf.Ren := ⟨fun | 164 => 65 | 197 => 85 | 239 => 86 | 260 => 98 | 274 => 99 | 275 => 100 | n => n, fun | 9 => 9 | 4 => 4 | 3 => 3 | 5 => 5 | 0 => 0 | 21 => 21 | 105 => 68 | 156 => 119 | 49 => 118 | 157 => 120 | 46 => 103 | 159 => 122 | 162 => 125 | 160 => 123 | 119 => 102 | 139 => 106 | 138 => 105 | 208 => 143 | 51 => 139 | 206 => 141 | n => n, fun | 11 => 2 | 12 => 3 | 13 => 4 | 3 => 0 | 4 => 1 | n => n⟩
theorem Tryz.laysFold : Go.Proofs.Lays.n164 Tryz.prog Tryz.laysFold_ren := {
  mixed := by kernel_rfl
  f164 := Tryz.func65.trans (congrArg some (by kernel_rfl))
  f197 := Tryz.func85.trans (congrArg some (by kernel_rfl))
  f239 := Tryz.func86.trans (congrArg some (by kernel_rfl))
  f260 := Tryz.func98.trans (congrArg some (by kernel_rfl))
  f274 := Tryz.func99.trans (congrArg some (by kernel_rfl))
  f275 := Tryz.func100.trans (congrArg some (by kernel_rfl))
  t0 := Tryz.underlying0
  a0 := Tryz.isAgg0
  z0 := Tryz.sizeOf0
  v0 := Tryz.zeroValue0
  t3 := Tryz.underlying3
  a3 := Tryz.isAgg3
  z3 := Tryz.sizeOf3
  v3 := Tryz.zeroValue3
  t4 := Tryz.underlying4
  a4 := Tryz.isAgg4
  z4 := Tryz.sizeOf4
  v4 := Tryz.zeroValue4
  t5 := Tryz.underlying5
  a5 := Tryz.isAgg5
  z5 := Tryz.sizeOf5
  v5 := Tryz.zeroValue5
  t9 := Tryz.underlying9
  a9 := Tryz.isAgg9
  z9 := Tryz.sizeOf9
  v9 := Tryz.zeroValue9
  t21 := Tryz.underlying21
  a21 := Tryz.isAgg21
  z21 := Tryz.sizeOf21
  v21 := Tryz.zeroValue21
  t46 := Tryz.underlying103
  a46 := Tryz.isAgg103
  z46 := Tryz.sizeOf103
  v46 := Tryz.zeroValue103
  t49 := Tryz.underlying118
  a49 := Tryz.isAgg118
  z49 := Tryz.sizeOf118
  v49 := Tryz.zeroValue118
  t51 := Tryz.underlying139
  a51 := Tryz.isAgg139
  z51 := Tryz.sizeOf139
  v51 := Tryz.zeroValue139
  t105 := Tryz.underlying68
  a105 := Tryz.isAgg68
  z105 := Tryz.sizeOf68
  v105 := Tryz.zeroValue68
  t119 := Tryz.underlying102
  a119 := Tryz.isAgg102
  z119 := Tryz.sizeOf102
  t138 := Tryz.underlying105
  a138 := Tryz.isAgg105
  z138 := Tryz.sizeOf105
  v138 := Tryz.zeroValue105
  t139 := Tryz.underlying106
  a139 := Tryz.isAgg106
  z139 := Tryz.sizeOf106
  v139 := Tryz.zeroValue106
  t156 := Tryz.underlying119
  a156 := Tryz.isAgg119
  z156 := Tryz.sizeOf119
  t157 := Tryz.underlying120
  a157 := Tryz.isAgg120
  z157 := Tryz.sizeOf120
  v157 := Tryz.zeroValue120
  t159 := Tryz.underlying122
  a159 := Tryz.isAgg122
  z159 := Tryz.sizeOf122
  v159 := Tryz.zeroValue122
  t160 := Tryz.underlying123
  a160 := Tryz.isAgg123
  z160 := Tryz.sizeOf123
  v160 := Tryz.zeroValue123
  t162 := Tryz.underlying125
  a162 := Tryz.isAgg125
  z162 := Tryz.sizeOf125
  v162 := Tryz.zeroValue125
  t206 := Tryz.underlying141
  a206 := Tryz.isAgg141
  z206 := Tryz.sizeOf141
  v206 := Tryz.zeroValue141
  t208 := Tryz.underlying143
  a208 := Tryz.isAgg143
  z208 := Tryz.sizeOf143
  v208 := Tryz.zeroValue143
  g3 := by kernel_rfl
  g4 := by kernel_rfl
  g11 := by kernel_rfl
  g12 := by kernel_rfl
  g13 := by kernel_rfl }
open Go.RowKit Go.Lib in
theorem Tryz.strings_EqualFold (s t : ByteArray) (w : World) (hs : s.size < 4294967281) (has : ∀ (j : Nat) b, s.data.toList[j]? = some b → b.toNat < 128) (hat : ∀ (j : Nat) b, t.data.toList[j]? = some b → b.toNat < 128) :
    Calls Tryz.prog 65 #[.string s, .string t] w fun e w' => e = .returned (.bool (Lib.equalFold s.data.toList t.data.toList)) ∧ w' = w := Any.strings_EqualFold Tryz.laysFold s t w hs has hat
end Go.Proofs
