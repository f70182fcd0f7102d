/- Proved here: plain facts on references with names; no program is named. -/
import Derived.Test.YtdomhjjoijkeaaaDoorNamed
import Derived.Test.YtdomhjjoijkeaaaDoorDigPlain
import Derived.Lib.Strings
import Derived.Lib.Bytes
import Derived.Test.YtdomhjjoijkeaaaDoorColonPlain
namespace Go.Proofs.YtdomhjjoijkeaaaDoor
open Go.RowKit

/-- Does the k-th word stand at this place? -/
def pfxB (s : ByteArray) (at_ k : Nat) : Bool := Lib.hasPrefix (s.data.toList.drop at_) (wordOf k).data.toList
/-- What the last m words say of a place. -/
def namedGo (s : ByteArray) (at_ : Nat) : Nat → Int × Int × Int
  | 0 => (0, 0, 22)
  | m + 1 => if pfxB s at_ (4 - m) then (charOf (4 - m), (at_ : Int) + ((wordOf (4 - m)).size : Int), 0) else namedGo s at_ m
/-- What Expand answers at a place within where an ampersand stands. -/
def expF (s : ByteArray) (at_ : Nat) : Int × Int × Int := if at_ + 1 < s.size ∧ by_ s (at_ + 1) = 35 then numF s (at_ + 2) else namedGo s at_ 5
def tailZ (s : ByteArray) (at_ : Nat) : List Int := (List.range (s.size - at_)).map fun j => by_ s (at_ + j)
theorem tailZ_length (s : ByteArray) (at_ : Nat) : (tailZ s at_).length = s.size - at_ := by simp [tailZ]
theorem tailZ_get (s : ByteArray) (at_ i : Nat) (h : i < s.size - at_) : (tailZ s at_).getD i 0 = by_ s (at_ + i) := by
  simp [tailZ, List.getD, h]
theorem tailZ_bytes (s : ByteArray) (at_ : Nat) : Lib.bytesOf (tailZ s at_) = s.data.toList.drop at_ := by
  apply List.ext_getElem?
  intro i
  unfold Lib.bytesOf tailZ
  by_cases h : i < s.size - at_
  · have h1 := get!_of s (at_ + i) (by omega)
    rw [List.getElem?_drop, h1]
    simp only [List.map_map, List.getElem?_map, List.getElem?_range h, Option.map_some, Function.comp]
    congr 1
    unfold by_
    simp
  · rw [List.getElem?_eq_none (by simp; omega), List.getElem?_eq_none (by simp; omega)]
end Go.Proofs.YtdomhjjoijkeaaaDoor
