/- Proved here: at this program, the library's contracts that the scanner uses (bytes.Cut, bytes.Count, bytes.TrimPrefix, strings.CutPrefix, strings.EqualFold); each is one application of the library's own theorem. -/
import Derived.Shelf.Lays
import Derived.Shelf.SlLaysT
import Derived.Shelf.SlLaysB
import Derived.Shelf.Bytes.SlCut
import Derived.Shelf.Bytes.SlCountOne
import Derived.Shelf.Bytes.SlSmallAll
import Derived.Shelf.Small.Wraps
import Derived.Shelf.Strings.Fold
import Derived.Test.YtpcdcndniibalaaGreatDoorProg
namespace Go.Proofs
open Go.Shelf
def Tryz.laysCut_ren : Go.Shelf.Ren := ⟨fun | 4 => 47 | 5 => 64 | 6 => 77 | 7 => 31 | 8 => 78 | 9 => 79 | 10 => 80 | 11 => 88 | 12 => 89 | n => n, fun | 22 => 22 | 4 => 4 | 3 => 3 | 0 => 0 | 5 => 5 | 29 => 78 | 9 => 9 | 31 => 121 | 30 => 115 | n => n, fun | 0 => 5 | n => n⟩
theorem Tryz.laysCut : Go.Proofs.SlLaysT.n4 Tryz.prog Tryz.laysCut_ren := {
  mixed := by kernel_rfl
  f4 := Tryz.func47.trans (congrArg some (by kernel_rfl))
  f5 := Tryz.func64.trans (congrArg some (by kernel_rfl))
  f6 := Tryz.func77.trans (congrArg some (by kernel_rfl))
  f7 := Tryz.func31.trans (congrArg some (by kernel_rfl))
  f8 := Tryz.func78.trans (congrArg some (by kernel_rfl))
  f9 := Tryz.func79.trans (congrArg some (by kernel_rfl))
  f10 := Tryz.func80.trans (congrArg some (by kernel_rfl))
  f11 := Tryz.func88.trans (congrArg some (by kernel_rfl))
  f12 := Tryz.func89.trans (congrArg some (by kernel_rfl))
  t0 := Tryz.underlying0
  a0 := Tryz.isAgg0
  z0 := Tryz.sizeOf0
  v0 := Tryz.zeroValue0
  t3 := Tryz.underlying3
  a3 := Tryz.isAgg3
  z3 := Tryz.sizeOf3
  v3 := Tryz.zeroValue3
  t4 := Tryz.underlying4
  a4 := Tryz.isAgg4
  z4 := Tryz.sizeOf4
  v4 := Tryz.zeroValue4
  t5 := Tryz.underlying5
  a5 := Tryz.isAgg5
  z5 := Tryz.sizeOf5
  v5 := Tryz.zeroValue5
  t9 := Tryz.underlying9
  a9 := Tryz.isAgg9
  z9 := Tryz.sizeOf9
  v9 := Tryz.zeroValue9
  t22 := Tryz.underlying22
  a22 := Tryz.isAgg22
  z22 := Tryz.sizeOf22
  v22 := Tryz.zeroValue22
  t29 := Tryz.underlying78
  a29 := Tryz.isAgg78
  z29 := Tryz.sizeOf78
  v29 := Tryz.zeroValue78
  t30 := Tryz.underlying115
  a30 := Tryz.isAgg115
  z30 := Tryz.sizeOf115
  v30 := Tryz.zeroValue115
  t31 := Tryz.underlying121
  a31 := Tryz.isAgg121
  z31 := Tryz.sizeOf121
  v31 := Tryz.zeroValue121
  g0 := by kernel_rfl }
open Go.RowKit Go.Lib in
theorem Tryz.bytes_Cut (p1 p2 : Option Addr) (n c1 k c2 : Nat) (xs ys : List Int) (m : Int) (w : World) (hx : xs.length = n) (hy : ys.length = k) (hr1 : ∀ x ∈ xs, 0 ≤ x ∧ x < 256) (hr2 : ∀ y ∈ ys, 0 ≤ y ∧ y < 256) (h1 : Lib.BytesIn w p1 n xs) (h2 : Lib.BytesIn w p2 k ys) (hp1 : p1 = none → c1 = 0) (hcap : n ≤ c1) (hs : n < 4294967281) (hk : k ≤ 9223372036854775807) (hm : w.cell? ⟨5, 0, none⟩ = some (.int .i64 m)) :
    Calls Tryz.prog 47 #[.slice p1 n c1, .slice p2 k c2] w fun e w' => e = .returned (Lib.cutV p1 n c1 k (Lib.index (Lib.bytesOf xs) (Lib.bytesOf ys))) ∧ ∃ q, w' = w.drewN q := Any.bytes_Cut_all Tryz.laysCut p1 p2 n c1 k c2 xs ys m w hx hy hr1 hr2 h1 h2 hp1 hcap hs hk hm
def Tryz.laysCount_ren : Go.Shelf.Ren := ⟨fun | 13 => 49 | 24 => 67 | 25 => 68 | 12 => 64 | 31 => 84 | 19 => 77 | 20 => 31 | 21 => 78 | 22 => 79 | 23 => 80 | 29 => 88 | 30 => 89 | n => n, fun | 22 => 22 | 3 => 3 | 4 => 4 | 0 => 0 | 5 => 5 | 9 => 9 | 33 => 78 | 40 => 121 | 39 => 115 | n => n, fun | 0 => 5 | n => n⟩
theorem Tryz.laysCount : Go.Proofs.SlLaysB.n13 Tryz.prog Tryz.laysCount_ren := {
  mixed := by kernel_rfl
  f13 := Tryz.func49.trans (congrArg some (by kernel_rfl))
  f25 := Tryz.func68.trans (congrArg some (by kernel_rfl))
  t0 := Tryz.underlying0
  a0 := Tryz.isAgg0
  z0 := Tryz.sizeOf0
  v0 := Tryz.zeroValue0
  t3 := Tryz.underlying3
  a3 := Tryz.isAgg3
  z3 := Tryz.sizeOf3
  v3 := Tryz.zeroValue3
  t4 := Tryz.underlying4
  a4 := Tryz.isAgg4
  z4 := Tryz.sizeOf4
  v4 := Tryz.zeroValue4
  t5 := Tryz.underlying5
  a5 := Tryz.isAgg5
  z5 := Tryz.sizeOf5
  v5 := Tryz.zeroValue5
  t22 := Tryz.underlying22
  a22 := Tryz.isAgg22
  z22 := Tryz.sizeOf22
  v22 := Tryz.zeroValue22 }
open Go.RowKit Go.Lib in
theorem Tryz.bytes_Count_one (b o n c b2 o2 d : Nat) (xs : List Int) (cv : Int) (w : World) (hx : xs.length = n) (hc : ∀ i, i < n → w.cell? ⟨b, o + i, none⟩ = some (.int .u8 (xs.getD i 0))) (hc2 : w.cell? ⟨b2, o2, none⟩ = some (.int .u8 cv)) :
    Calls Tryz.prog 49 #[.slice (some ⟨b, o, none⟩) n c, .slice (some ⟨b2, o2, none⟩) 1 d] w fun e w' => e = .returned (.int .i64 (Lib.countByte (Lib.bytesOf xs) cv.toNat.toUInt8)) ∧ w' = w := Any.bytes_Count_one Tryz.laysCount b o n c b2 o2 d xs cv w hx hc hc2
def Tryz.laysTrim_ren : Go.Shelf.Ren := ⟨fun | 139 => 15 | 116 => 19 | 115 => 31 | n => n, fun | 37 => 22 | 4 => 4 | 3 => 3 | 9 => 9 | 5 => 5 | n => n, fun | n => n⟩
theorem Tryz.laysTrim : Go.Proofs.Lays.nb139 Tryz.prog Tryz.laysTrim_ren := {
  mixed := by kernel_rfl
  f115 := Tryz.func31.trans (congrArg some (by kernel_rfl))
  f116 := Tryz.func19.trans (congrArg some (by kernel_rfl))
  f139 := Tryz.func15.trans (congrArg some (by kernel_rfl))
  t3 := Tryz.underlying3
  a3 := Tryz.isAgg3
  z3 := Tryz.sizeOf3
  v3 := Tryz.zeroValue3
  t4 := Tryz.underlying4
  a4 := Tryz.isAgg4
  z4 := Tryz.sizeOf4
  v4 := Tryz.zeroValue4
  t9 := Tryz.underlying9
  a9 := Tryz.isAgg9
  z9 := Tryz.sizeOf9
  v9 := Tryz.zeroValue9
  t37 := Tryz.underlying22
  a37 := Tryz.isAgg22
  z37 := Tryz.sizeOf22
  v37 := Tryz.zeroValue22
  t5 := Tryz.underlying5
  a5 := Tryz.isAgg5
  z5 := Tryz.sizeOf5
  v5 := Tryz.zeroValue5 }
open Go.RowKit Go.Lib in
theorem Tryz.bytes_TrimPrefix (p1 p2 : Option Addr) (n c m d : Nat) (xs ys : List Int) (w : World) (hx : xs.length = n) (hy : ys.length = m) (hnc : n ≤ c) (h1 : Lib.BytesIn w p1 n xs) (h2 : Lib.BytesIn w p2 m ys) :
    Calls Tryz.prog 15 #[.slice p1 n c, .slice p2 m d] w fun e w' => e = .returned (Lib.trimPrefixV p1 n c xs ys) ∧ w' = w := Any.bytes_TrimPrefix_all Tryz.laysTrim p1 p2 n c m d xs ys w hx hy hnc h1 h2
def Tryz.laysCutPrefix_ren : Go.Shelf.Ren := ⟨fun | 103 => 52 | 210 => 69 | 206 => 85 | n => n, fun | 9 => 9 | 4 => 4 | 24 => 83 | 3 => 3 | n => n, fun | n => n⟩
theorem Tryz.laysCutPrefix : Go.Proofs.Lays.n103 Tryz.prog Tryz.laysCutPrefix_ren := {
  mixed := by kernel_rfl
  f103 := Tryz.func52.trans (congrArg some (by kernel_rfl))
  f206 := Tryz.func85.trans (congrArg some (by kernel_rfl))
  f210 := Tryz.func69.trans (congrArg some (by kernel_rfl))
  t3 := Tryz.underlying3
  a3 := Tryz.isAgg3
  z3 := Tryz.sizeOf3
  v3 := Tryz.zeroValue3
  t4 := Tryz.underlying4
  a4 := Tryz.isAgg4
  z4 := Tryz.sizeOf4
  v4 := Tryz.zeroValue4
  t9 := Tryz.underlying9
  a9 := Tryz.isAgg9
  z9 := Tryz.sizeOf9
  v9 := Tryz.zeroValue9
  t24 := Tryz.underlying83
  a24 := Tryz.isAgg83
  z24 := Tryz.sizeOf83
  v24 := Tryz.zeroValue83 }
open Go.RowKit Go.Lib in
theorem Tryz.strings_CutPrefix (s p : ByteArray) (w : World) :
    Calls Tryz.prog 52 #[.string s, .string p] w fun e w' => e = .returned (.tuple #[.string ⟨(Lib.trimPrefix s.data.toList p.data.toList).toArray⟩, .bool (Lib.hasPrefix s.data.toList p.data.toList)]) ∧ w' = w := Any.strings_CutPrefix Tryz.laysCutPrefix s p w
def Tryz.laysFold_ren : Go.Shelf.Ren := ⟨fun | 164 => 41 | 197 => 57 | 239 => 58 | 260 => 70 | 274 => 71 | 275 => 72 | n => n, fun | 9 => 9 | 4 => 4 | 3 => 3 | 5 => 5 | 0 => 0 | 21 => 21 | 105 => 53 | 156 => 94 | 49 => 93 | 157 => 95 | 46 => 78 | 159 => 97 | 162 => 100 | 160 => 98 | 119 => 77 | 139 => 81 | 138 => 80 | 208 => 119 | 51 => 115 | 206 => 117 | n => n, fun | 11 => 2 | 12 => 3 | 13 => 4 | 3 => 0 | 4 => 1 | n => n⟩
theorem Tryz.laysFold : Go.Proofs.Lays.n164 Tryz.prog Tryz.laysFold_ren := {
  mixed := by kernel_rfl
  f164 := Tryz.func41.trans (congrArg some (by kernel_rfl))
  f197 := Tryz.func57.trans (congrArg some (by kernel_rfl))
  f239 := Tryz.func58.trans (congrArg some (by kernel_rfl))
  f260 := Tryz.func70.trans (congrArg some (by kernel_rfl))
  f274 := Tryz.func71.trans (congrArg some (by kernel_rfl))
  f275 := Tryz.func72.trans (congrArg some (by kernel_rfl))
  t0 := Tryz.underlying0
  a0 := Tryz.isAgg0
  z0 := Tryz.sizeOf0
  v0 := Tryz.zeroValue0
  t3 := Tryz.underlying3
  a3 := Tryz.isAgg3
  z3 := Tryz.sizeOf3
  v3 := Tryz.zeroValue3
  t4 := Tryz.underlying4
  a4 := Tryz.isAgg4
  z4 := Tryz.sizeOf4
  v4 := Tryz.zeroValue4
  t5 := Tryz.underlying5
  a5 := Tryz.isAgg5
  z5 := Tryz.sizeOf5
  v5 := Tryz.zeroValue5
  t9 := Tryz.underlying9
  a9 := Tryz.isAgg9
  z9 := Tryz.sizeOf9
  v9 := Tryz.zeroValue9
  t21 := Tryz.underlying21
  a21 := Tryz.isAgg21
  z21 := Tryz.sizeOf21
  v21 := Tryz.zeroValue21
  t46 := Tryz.underlying78
  a46 := Tryz.isAgg78
  z46 := Tryz.sizeOf78
  v46 := Tryz.zeroValue78
  t49 := Tryz.underlying93
  a49 := Tryz.isAgg93
  z49 := Tryz.sizeOf93
  v49 := Tryz.zeroValue93
  t51 := Tryz.underlying115
  a51 := Tryz.isAgg115
  z51 := Tryz.sizeOf115
  v51 := Tryz.zeroValue115
  t105 := Tryz.underlying53
  a105 := Tryz.isAgg53
  z105 := Tryz.sizeOf53
  v105 := Tryz.zeroValue53
  t119 := Tryz.underlying77
  a119 := Tryz.isAgg77
  z119 := Tryz.sizeOf77
  t138 := Tryz.underlying80
  a138 := Tryz.isAgg80
  z138 := Tryz.sizeOf80
  v138 := Tryz.zeroValue80
  t139 := Tryz.underlying81
  a139 := Tryz.isAgg81
  z139 := Tryz.sizeOf81
  v139 := Tryz.zeroValue81
  t156 := Tryz.underlying94
  a156 := Tryz.isAgg94
  z156 := Tryz.sizeOf94
  t157 := Tryz.underlying95
  a157 := Tryz.isAgg95
  z157 := Tryz.sizeOf95
  v157 := Tryz.zeroValue95
  t159 := Tryz.underlying97
  a159 := Tryz.isAgg97
  z159 := Tryz.sizeOf97
  v159 := Tryz.zeroValue97
  t160 := Tryz.underlying98
  a160 := Tryz.isAgg98
  z160 := Tryz.sizeOf98
  v160 := Tryz.zeroValue98
  t162 := Tryz.underlying100
  a162 := Tryz.isAgg100
  z162 := Tryz.sizeOf100
  v162 := Tryz.zeroValue100
  t206 := Tryz.underlying117
  a206 := Tryz.isAgg117
  z206 := Tryz.sizeOf117
  v206 := Tryz.zeroValue117
  t208 := Tryz.underlying119
  a208 := Tryz.isAgg119
  z208 := Tryz.sizeOf119
  v208 := Tryz.zeroValue119
  g3 := by kernel_rfl
  g4 := by kernel_rfl
  g11 := by kernel_rfl
  g12 := by kernel_rfl
  g13 := by kernel_rfl }
open Go.RowKit Go.Lib in
theorem Tryz.strings_EqualFold (s t : ByteArray) (w : World) (hs : s.size < 4294967281) (has : ∀ (j : Nat) b, s.data.toList[j]? = some b → b.toNat < 128) (hat : ∀ (j : Nat) b, t.data.toList[j]? = some b → b.toNat < 128) :
    Calls Tryz.prog 41 #[.string s, .string t] w fun e w' => e = .returned (.bool (Lib.equalFold s.data.toList t.data.toList)) ∧ w' = w := Any.strings_EqualFold Tryz.laysFold s t w hs has hat
end Go.Proofs
