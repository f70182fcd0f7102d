/- Proved here: what the walks of refer's Expand ask of the table and of the test of a beginning; what was there stays. -/
import Derived.Test.YtcfecnleibeegaaGreatDoorM0
import Derived.Test.YtcfecnleibeegaaGreatDoorNumbered
import Derived.BigGuardPart
import Derived.Deep.RegionWith
import Derived.Laws.Rows
namespace Go.Proofs.YtcfecnleibeegaaGreatDoor
open Go.RowKit

theorem index0 (W : World) : (Instr.index 162 (.agg #[.string (wordOf 0), .int .i32 (charOf 0), .string (wordOf 1), .int .i32 (charOf 1), .string (wordOf 2), .int .i32 (charOf 2), .string (wordOf 3), .int .i32 (charOf 3), .string (wordOf 4), .int .i32 (charOf 4)]) (.int .i64 0)).run Tryz.prog W = .ok (.agg #[.string (wordOf 0), .int .i32 (charOf 0)]) W := by
  kernel_rfl
theorem index1 (W : World) : (Instr.index 162 (.agg #[.string (wordOf 0), .int .i32 (charOf 0), .string (wordOf 1), .int .i32 (charOf 1), .string (wordOf 2), .int .i32 (charOf 2), .string (wordOf 3), .int .i32 (charOf 3), .string (wordOf 4), .int .i32 (charOf 4)]) (.int .i64 1)).run Tryz.prog W = .ok (.agg #[.string (wordOf 1), .int .i32 (charOf 1)]) W := by
  kernel_rfl
theorem index2 (W : World) : (Instr.index 162 (.agg #[.string (wordOf 0), .int .i32 (charOf 0), .string (wordOf 1), .int .i32 (charOf 1), .string (wordOf 2), .int .i32 (charOf 2), .string (wordOf 3), .int .i32 (charOf 3), .string (wordOf 4), .int .i32 (charOf 4)]) (.int .i64 2)).run Tryz.prog W = .ok (.agg #[.string (wordOf 2), .int .i32 (charOf 2)]) W := by
  kernel_rfl
theorem index3 (W : World) : (Instr.index 162 (.agg #[.string (wordOf 0), .int .i32 (charOf 0), .string (wordOf 1), .int .i32 (charOf 1), .string (wordOf 2), .int .i32 (charOf 2), .string (wordOf 3), .int .i32 (charOf 3), .string (wordOf 4), .int .i32 (charOf 4)]) (.int .i64 3)).run Tryz.prog W = .ok (.agg #[.string (wordOf 3), .int .i32 (charOf 3)]) W := by
  kernel_rfl
theorem index4 (W : World) : (Instr.index 162 (.agg #[.string (wordOf 0), .int .i32 (charOf 0), .string (wordOf 1), .int .i32 (charOf 1), .string (wordOf 2), .int .i32 (charOf 2), .string (wordOf 3), .int .i32 (charOf 3), .string (wordOf 4), .int .i32 (charOf 4)]) (.int .i64 4)).run Tryz.prog W = .ok (.agg #[.string (wordOf 4), .int .i32 (charOf 4)]) W := by
  kernel_rfl
theorem wordOf_size (k : Nat) : (wordOf k).size ≤ 6 := by
  match k with
  | 0 => decide
  | 1 => decide
  | 2 => decide
  | 3 => decide
  | _ + 4 => show (⟨#[38, 113, 117, 111, 116, 59]⟩ : ByteArray).size ≤ 6; decide
def wordZ (k : Nat) : List Int := (wordOf k).data.toList.map fun x => (x.toNat : Int)
theorem wordZ_bytes (k : Nat) : Lib.bytesOf (wordZ k) = (wordOf k).data.toList := by
  unfold Lib.bytesOf wordZ
  rw [List.map_map]
  conv => rhs; rw [← List.map_id (wordOf k).data.toList]
  apply List.map_congr_left
  intro x _
  simp
theorem prefix_at (s : ByteArray) (b off cap at_ : Nat) (k : Nat) (g c : Nat) (W : World) (hcap : s.size ≤ cap) (hat : at_ ≤ s.size) (hp : ∀ j, j < s.size → W.cell? ⟨b, off + j, none⟩ = some (.int .u8 (by_ s j)))
    (hw : ∀ j, j < (wordOf k).size → W.cell? ⟨g, 0 + j, none⟩ = some (.int .u8 ((wordOf k).get! j).toNat)) :
    Calls Tryz.prog 43 #[.slice (some ⟨b, off + at_, none⟩) (s.size - at_) (cap - at_), .slice (some ⟨g, 0, none⟩) (wordOf k).size c] W fun e w' => e = .returned (.bool (pfxB s at_ k)) ∧ W = w' := by
  refine (Tryz.bytes_HasPrefix_all (some ⟨b, off + at_, none⟩) (some ⟨g, 0, none⟩) (s.size - at_) (cap - at_) (wordOf k).size c (tailZ s at_) (wordZ k) W (tailZ_length s at_) (by simp [wordZ]) (by omega) ?_ ?_).mono ?_
  · intro _
    refine ⟨b, off + at_, rfl, fun i hi => ?_⟩
    rw [tailZ_get s at_ i hi, Nat.add_assoc]
    exact hp (at_ + i) (by omega)
  · intro _
    refine ⟨g, 0, rfl, fun i hi => ?_⟩
    rw [hw i hi]
    have h1 := get!_of (wordOf k) i hi
    simp [wordZ, List.getD, h1]
  · rintro e w' ⟨rfl, rfl⟩
    refine ⟨?_, rfl⟩
    rw [tailZ_bytes, wordZ_bytes]
    rfl
theorem alloc_cell0 (w : World) (x y : Value) (t : TypeId) : (w.alloc (.cells #[x, y] t)).drew.cell? ⟨w.heap.size, 0, none⟩ = some x := by
  show (w.alloc (.cells #[x, y] t)).cell? ⟨w.heap.size, 0, none⟩ = some x
  rw [cell_of_row _ _ _ #[x, y] t (0, 0) (heap_alloc_new w _)]
  rfl
theorem alloc_cell1 (w : World) (x y : Value) (t : TypeId) : (w.alloc (.cells #[x, y] t)).drew.cell? ⟨w.heap.size, 1, none⟩ = some y := by
  show (w.alloc (.cells #[x, y] t)).cell? ⟨w.heap.size, 1, none⟩ = some y
  rw [cell_of_row _ _ _ #[x, y] t (0, 0) (heap_alloc_new w _)]
  rfl
theorem alloc_drew_size (w : World) (o : Obj) : (w.alloc o).drew.heap.size = w.heap.size + 1 := by
  show (w.heap.push o).size = _
  simp
theorem named_yes (s : ByteArray) (at_ m : Nat) (h : pfxB s at_ (4 - m) = true) : namedGo s at_ (m + 1) = (charOf (4 - m), (at_ : Int) + ((wordOf (4 - m)).size : Int), 0) := by rw [namedGo, if_pos h]
theorem named_no (s : ByteArray) (at_ m : Nat) (h : pfxB s at_ (4 - m) = false) : namedGo s at_ (m + 1) = namedGo s at_ m := by rw [namedGo, if_neg (by rw [h]; simp)]
theorem ret_tri {A : Int × Int × Int} {x y z : Int} (h : A = (x, y, z)) : Ending.returned (.tuple #[.int .i32 x, .int .i64 y, .int .i64 z]) = .returned (.tuple #[.int .i32 A.1, .int .i64 A.2.1, .int .i64 A.2.2]) := by rw [h]
def NamedRel (s : ByteArray) (at_ : Nat) (w : World) (ANS : Int × Int × Int) (i : Value) (wr : World) : Prop := ∃ k : Nat, i = .int .i64 k ∧ k ≤ 5 ∧ Below w.heap.size w wr ∧ namedGo s at_ (5 - k) = ANS
end Go.Proofs.YtcfecnleibeegaaGreatDoor
