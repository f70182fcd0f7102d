/- Proved here: at this program, the library's contracts that the scanner uses (bytes.Cut, bytes.Count, bytes.TrimPrefix, strings.CutPrefix, strings.EqualFold); each is one application of the library's own theorem. -/
import Derived.Shelf.Lays
import Derived.Shelf.SlLaysT
import Derived.Shelf.SlLaysB
import Derived.Shelf.Bytes.SlCut
import Derived.Shelf.Bytes.SlCountOne
import Derived.Shelf.Bytes.SlSmallAll
import Derived.Shelf.Small.Wraps
import Derived.Shelf.Strings.Fold
import Derived.Test.YteipiaefamfleaaGreatDoorProg
namespace Go.Proofs
open Go.Shelf
def Tryz.laysCut_ren : Go.Shelf.Ren := ⟨fun | 4 => 50 | 5 => 67 | 6 => 80 | 7 => 34 | 8 => 81 | 9 => 82 | 10 => 83 | 11 => 91 | 12 => 92 | n => n, fun | 22 => 22 | 4 => 4 | 3 => 3 | 0 => 0 | 5 => 5 | 29 => 82 | 9 => 9 | 31 => 124 | 30 => 118 | n => n, fun | 0 => 5 | n => n⟩
theorem Tryz.laysCut : Go.Proofs.SlLaysT.n4 Tryz.prog Tryz.laysCut_ren := {
  mixed := by kernel_rfl
  f4 := Tryz.func50.trans (congrArg some (by kernel_rfl))
  f5 := Tryz.func67.trans (congrArg some (by kernel_rfl))
  f6 := Tryz.func80.trans (congrArg some (by kernel_rfl))
  f7 := Tryz.func34.trans (congrArg some (by kernel_rfl))
  f8 := Tryz.func81.trans (congrArg some (by kernel_rfl))
  f9 := Tryz.func82.trans (congrArg some (by kernel_rfl))
  f10 := Tryz.func83.trans (congrArg some (by kernel_rfl))
  f11 := Tryz.func91.trans (congrArg some (by kernel_rfl))
  f12 := Tryz.func92.trans (congrArg some (by kernel_rfl))
  t0 := Tryz.underlying0
  a0 := Tryz.isAgg0
  z0 := Tryz.sizeOf0
  v0 := Tryz.zeroValue0
  t3 := Tryz.underlying3
  a3 := Tryz.isAgg3
  z3 := Tryz.sizeOf3
  v3 := Tryz.zeroValue3
  t4 := Tryz.underlying4
  a4 := Tryz.isAgg4
  z4 := Tryz.sizeOf4
  v4 := Tryz.zeroValue4
  t5 := Tryz.underlying5
  a5 := Tryz.isAgg5
  z5 := Tryz.sizeOf5
  v5 := Tryz.zeroValue5
  t9 := Tryz.underlying9
  a9 := Tryz.isAgg9
  z9 := Tryz.sizeOf9
  v9 := Tryz.zeroValue9
  t22 := Tryz.underlying22
  a22 := Tryz.isAgg22
  z22 := Tryz.sizeOf22
  v22 := Tryz.zeroValue22
  t29 := Tryz.underlying82
  a29 := Tryz.isAgg82
  z29 := Tryz.sizeOf82
  v29 := Tryz.zeroValue82
  t30 := Tryz.underlying118
  a30 := Tryz.isAgg118
  z30 := Tryz.sizeOf118
  v30 := Tryz.zeroValue118
  t31 := Tryz.underlying124
  a31 := Tryz.isAgg124
  z31 := Tryz.sizeOf124
  v31 := Tryz.zeroValue124
  g0 := by kernel_rfl }
open Go.RowKit Go.Lib in
theorem Tryz.bytes_Cut (p1 p2 : Option Addr) (n c1 k c2 : Nat) (xs ys : List Int) (m : Int) (w : World) (hx : xs.length = n) (hy : ys.length = k) (hr1 : ∀ x ∈ xs, 0 ≤ x ∧ x < 256) (hr2 : ∀ y ∈ ys, 0 ≤ y ∧ y < 256) (h1 : Lib.BytesIn w p1 n xs) (h2 : Lib.BytesIn w p2 k ys) (hp1 : p1 = none → c1 = 0) (hcap : n ≤ c1) (hs : n < 4294967281) (hk : k ≤ 9223372036854775807) (hm : w.cell? ⟨5, 0, none⟩ = some (.int .i64 m)) :
    Calls Tryz.prog 50 #[.slice p1 n c1, .slice p2 k c2] w fun e w' => e = .returned (Lib.cutV p1 n c1 k (Lib.index (Lib.bytesOf xs) (Lib.bytesOf ys))) ∧ ∃ q, w' = w.drewN q := Any.bytes_Cut_all Tryz.laysCut p1 p2 n c1 k c2 xs ys m w hx hy hr1 hr2 h1 h2 hp1 hcap hs hk hm
def Tryz.laysCount_ren : Go.Shelf.Ren := ⟨fun | 13 => 52 | 24 => 70 | 25 => 71 | 12 => 67 | 31 => 87 | 19 => 80 | 20 => 34 | 21 => 81 | 22 => 82 | 23 => 83 | 29 => 91 | 30 => 92 | n => n, fun | 22 => 22 | 3 => 3 | 4 => 4 | 0 => 0 | 5 => 5 | 9 => 9 | 33 => 82 | 40 => 124 | 39 => 118 | n => n, fun | 0 => 5 | n => n⟩
theorem Tryz.laysCount : Go.Proofs.SlLaysB.n13 Tryz.prog Tryz.laysCount_ren := {
  mixed := by kernel_rfl
  f13 := Tryz.func52.trans (congrArg some (by kernel_rfl))
  f25 := Tryz.func71.trans (congrArg some (by kernel_rfl))
  t0 := Tryz.underlying0
  a0 := Tryz.isAgg0
  z0 := Tryz.sizeOf0
  v0 := Tryz.zeroValue0
  t3 := Tryz.underlying3
  a3 := Tryz.isAgg3
  z3 := Tryz.sizeOf3
  v3 := Tryz.zeroValue3
  t4 := Tryz.underlying4
  a4 := Tryz.isAgg4
  z4 := Tryz.sizeOf4
  v4 := Tryz.zeroValue4
  t5 := Tryz.underlying5
  a5 := Tryz.isAgg5
  z5 := Tryz.sizeOf5
  v5 := Tryz.zeroValue5
  t22 := Tryz.underlying22
  a22 := Tryz.isAgg22
  z22 := Tryz.sizeOf22
  v22 := Tryz.zeroValue22 }
open Go.RowKit Go.Lib in
theorem Tryz.bytes_Count_one (b o n c b2 o2 d : Nat) (xs : List Int) (cv : Int) (w : World) (hx : xs.length = n) (hc : ∀ i, i < n → w.cell? ⟨b, o + i, none⟩ = some (.int .u8 (xs.getD i 0))) (hc2 : w.cell? ⟨b2, o2, none⟩ = some (.int .u8 cv)) :
    Calls Tryz.prog 52 #[.slice (some ⟨b, o, none⟩) n c, .slice (some ⟨b2, o2, none⟩) 1 d] w fun e w' => e = .returned (.int .i64 (Lib.countByte (Lib.bytesOf xs) cv.toNat.toUInt8)) ∧ w' = w := Any.bytes_Count_one Tryz.laysCount b o n c b2 o2 d xs cv w hx hc hc2
def Tryz.laysTrim_ren : Go.Shelf.Ren := ⟨fun | 139 => 17 | 116 => 22 | 115 => 34 | n => n, fun | 37 => 22 | 4 => 4 | 3 => 3 | 9 => 9 | 5 => 5 | n => n, fun | n => n⟩
theorem Tryz.laysTrim : Go.Proofs.Lays.nb139 Tryz.prog Tryz.laysTrim_ren := {
  mixed := by kernel_rfl
  f115 := Tryz.func34.trans (congrArg some (by kernel_rfl))
  f116 := Tryz.func22.trans (congrArg some (by kernel_rfl))
  f139 := Tryz.func17.trans (congrArg some (by kernel_rfl))
  t3 := Tryz.underlying3
  a3 := Tryz.isAgg3
  z3 := Tryz.sizeOf3
  v3 := Tryz.zeroValue3
  t4 := Tryz.underlying4
  a4 := Tryz.isAgg4
  z4 := Tryz.sizeOf4
  v4 := Tryz.zeroValue4
  t9 := Tryz.underlying9
  a9 := Tryz.isAgg9
  z9 := Tryz.sizeOf9
  v9 := Tryz.zeroValue9
  t37 := Tryz.underlying22
  a37 := Tryz.isAgg22
  z37 := Tryz.sizeOf22
  v37 := Tryz.zeroValue22
  t5 := Tryz.underlying5
  a5 := Tryz.isAgg5
  z5 := Tryz.sizeOf5
  v5 := Tryz.zeroValue5 }
open Go.RowKit Go.Lib in
theorem Tryz.bytes_TrimPrefix (p1 p2 : Option Addr) (n c m d : Nat) (xs ys : List Int) (w : World) (hx : xs.length = n) (hy : ys.length = m) (hnc : n ≤ c) (h1 : Lib.BytesIn w p1 n xs) (h2 : Lib.BytesIn w p2 m ys) :
    Calls Tryz.prog 17 #[.slice p1 n c, .slice p2 m d] w fun e w' => e = .returned (Lib.trimPrefixV p1 n c xs ys) ∧ w' = w := Any.bytes_TrimPrefix_all Tryz.laysTrim p1 p2 n c m d xs ys w hx hy hnc h1 h2
def Tryz.laysCutPrefix_ren : Go.Shelf.Ren := ⟨fun | 103 => 55 | 210 => 72 | 206 => 88 | n => n, fun | 9 => 9 | 4 => 4 | 24 => 87 | 3 => 3 | n => n, fun | n => n⟩
theorem Tryz.laysCutPrefix : Go.Proofs.Lays.n103 Tryz.prog Tryz.laysCutPrefix_ren := {
  mixed := by kernel_rfl
  f103 := Tryz.func55.trans (congrArg some (by kernel_rfl))
  f206 := Tryz.func88.trans (congrArg some (by kernel_rfl))
  f210 := Tryz.func72.trans (congrArg some (by kernel_rfl))
  t3 := Tryz.underlying3
  a3 := Tryz.isAgg3
  z3 := Tryz.sizeOf3
  v3 := Tryz.zeroValue3
  t4 := Tryz.underlying4
  a4 := Tryz.isAgg4
  z4 := Tryz.sizeOf4
  v4 := Tryz.zeroValue4
  t9 := Tryz.underlying9
  a9 := Tryz.isAgg9
  z9 := Tryz.sizeOf9
  v9 := Tryz.zeroValue9
  t24 := Tryz.underlying87
  a24 := Tryz.isAgg87
  z24 := Tryz.sizeOf87
  v24 := Tryz.zeroValue87 }
open Go.RowKit Go.Lib in
theorem Tryz.strings_CutPrefix (s p : ByteArray) (w : World) :
    Calls Tryz.prog 55 #[.string s, .string p] w fun e w' => e = .returned (.tuple #[.string ⟨(Lib.trimPrefix s.data.toList p.data.toList).toArray⟩, .bool (Lib.hasPrefix s.data.toList p.data.toList)]) ∧ w' = w := Any.strings_CutPrefix Tryz.laysCutPrefix s p w
def Tryz.laysFold_ren : Go.Shelf.Ren := ⟨fun | 164 => 44 | 197 => 60 | 239 => 61 | 260 => 73 | 274 => 74 | 275 => 75 | n => n, fun | 9 => 9 | 4 => 4 | 3 => 3 | 5 => 5 | 0 => 0 | 21 => 21 | 105 => 57 | 156 => 98 | 49 => 97 | 157 => 99 | 46 => 82 | 159 => 101 | 162 => 104 | 160 => 102 | 119 => 81 | 139 => 85 | 138 => 84 | 208 => 122 | 51 => 118 | 206 => 120 | n => n, fun | 11 => 2 | 12 => 3 | 13 => 4 | 3 => 0 | 4 => 1 | n => n⟩
theorem Tryz.laysFold : Go.Proofs.Lays.n164 Tryz.prog Tryz.laysFold_ren := {
  mixed := by kernel_rfl
  f164 := Tryz.func44.trans (congrArg some (by kernel_rfl))
  f197 := Tryz.func60.trans (congrArg some (by kernel_rfl))
  f239 := Tryz.func61.trans (congrArg some (by kernel_rfl))
  f260 := Tryz.func73.trans (congrArg some (by kernel_rfl))
  f274 := Tryz.func74.trans (congrArg some (by kernel_rfl))
  f275 := Tryz.func75.trans (congrArg some (by kernel_rfl))
  t0 := Tryz.underlying0
  a0 := Tryz.isAgg0
  z0 := Tryz.sizeOf0
  v0 := Tryz.zeroValue0
  t3 := Tryz.underlying3
  a3 := Tryz.isAgg3
  z3 := Tryz.sizeOf3
  v3 := Tryz.zeroValue3
  t4 := Tryz.underlying4
  a4 := Tryz.isAgg4
  z4 := Tryz.sizeOf4
  v4 := Tryz.zeroValue4
  t5 := Tryz.underlying5
  a5 := Tryz.isAgg5
  z5 := Tryz.sizeOf5
  v5 := Tryz.zeroValue5
  t9 := Tryz.underlying9
  a9 := Tryz.isAgg9
  z9 := Tryz.sizeOf9
  v9 := Tryz.zeroValue9
  t21 := Tryz.underlying21
  a21 := Tryz.isAgg21
  z21 := Tryz.sizeOf21
  v21 := Tryz.zeroValue21
  t46 := Tryz.underlying82
  a46 := Tryz.isAgg82
  z46 := Tryz.sizeOf82
  v46 := Tryz.zeroValue82
  t49 := Tryz.underlying97
  a49 := Tryz.isAgg97
  z49 := Tryz.sizeOf97
  v49 := Tryz.zeroValue97
  t51 := Tryz.underlying118
  a51 := Tryz.isAgg118
  z51 := Tryz.sizeOf118
  v51 := Tryz.zeroValue118
  t105 := Tryz.underlying57
  a105 := Tryz.isAgg57
  z105 := Tryz.sizeOf57
  v105 := Tryz.zeroValue57
  t119 := Tryz.underlying81
  a119 := Tryz.isAgg81
  z119 := Tryz.sizeOf81
  t138 := Tryz.underlying84
  a138 := Tryz.isAgg84
  z138 := Tryz.sizeOf84
  v138 := Tryz.zeroValue84
  t139 := Tryz.underlying85
  a139 := Tryz.isAgg85
  z139 := Tryz.sizeOf85
  v139 := Tryz.zeroValue85
  t156 := Tryz.underlying98
  a156 := Tryz.isAgg98
  z156 := Tryz.sizeOf98
  t157 := Tryz.underlying99
  a157 := Tryz.isAgg99
  z157 := Tryz.sizeOf99
  v157 := Tryz.zeroValue99
  t159 := Tryz.underlying101
  a159 := Tryz.isAgg101
  z159 := Tryz.sizeOf101
  v159 := Tryz.zeroValue101
  t160 := Tryz.underlying102
  a160 := Tryz.isAgg102
  z160 := Tryz.sizeOf102
  v160 := Tryz.zeroValue102
  t162 := Tryz.underlying104
  a162 := Tryz.isAgg104
  z162 := Tryz.sizeOf104
  v162 := Tryz.zeroValue104
  t206 := Tryz.underlying120
  a206 := Tryz.isAgg120
  z206 := Tryz.sizeOf120
  v206 := Tryz.zeroValue120
  t208 := Tryz.underlying122
  a208 := Tryz.isAgg122
  z208 := Tryz.sizeOf122
  v208 := Tryz.zeroValue122
  g3 := by kernel_rfl
  g4 := by kernel_rfl
  g11 := by kernel_rfl
  g12 := by kernel_rfl
  g13 := by kernel_rfl }
open Go.RowKit Go.Lib in
theorem Tryz.strings_EqualFold (s t : ByteArray) (w : World) (hs : s.size < 4294967281) (has : ∀ (j : Nat) b, s.data.toList[j]? = some b → b.toNat < 128) (hat : ∀ (j : Nat) b, t.data.toList[j]? = some b → b.toNat < 128) :
    Calls Tryz.prog 44 #[.string s, .string t] w fun e w' => e = .returned (.bool (Lib.equalFold s.data.toList t.data.toList)) ∧ w' = w := Any.strings_EqualFold Tryz.laysFold s t w hs has hat
end Go.Proofs
