/- Proved here: the refer statements' own first look (awake) answers true in every world that holds the library's two tables and refer's table of names. -/
import Derived.Test.YtdomhjjoijkeaaaDoorText
import Derived.Test.YtdomhjjoijkeaaaDoorReadText
namespace Go.Proofs.YtdomhjjoijkeaaaDoor
open Go.RowKit

def lit1 : ByteArray := ⟨#[38, 35, 120, 52, 49, 59]⟩
def lit2 : ByteArray := ⟨#[97, 38, 103, 116, 59, 98]⟩
theorem lit1_cell (j : Nat) (h : j < 6) : ((#[.int .u8 38, .int .u8 35, .int .u8 120, .int .u8 52, .int .u8 49, .int .u8 59] : Array Value))[j]? = some (.int .u8 (by_ lit1 j)) := by
  match j, h with
  | 0, _ => rfl
  | 1, _ => rfl
  | 2, _ => rfl
  | 3, _ => rfl
  | 4, _ => rfl
  | 5, _ => rfl
theorem lit2_cell (j : Nat) (h : j < 6) : ((#[.int .u8 97, .int .u8 38, .int .u8 103, .int .u8 116, .int .u8 59, .int .u8 98] : Array Value))[j]? = some (.int .u8 (by_ lit2 j)) := by
  match j, h with
  | 0, _ => rfl
  | 1, _ => rfl
  | 2, _ => rfl
  | 3, _ => rfl
  | 4, _ => rfl
  | 5, _ => rfl
theorem exp1 : expF lit1 0 = (65, 6, 0) := by decide +kernel
theorem read2 : readF (stepT lit2) lit2.size = ([97, 62, 98], 0, 0) := by decide +kernel
theorem text3 : writtenB escT ⟨#[97, 60, 98]⟩ = ⟨#[97, 38, 108, 116, 59, 98]⟩ := by decide +kernel

set_option maxHeartbeats 2000000 in
theorem awake2_any (w : World) (hT : Tabs w) (hN : NamedAt w) : Calls Tryd.prog 10 #[] w fun e w' => e = .returned (.bool true) ∧ Below w.heap.size w w' := by
  have k1 : (convert 22 22 (.slice (some ⟨w.heap.size, 0, none⟩) 6 6)).run Tryd.prog (w.alloc (.cells #[.int .u8 38, .int .u8 35, .int .u8 120, .int .u8 52, .int .u8 49, .int .u8 59] 5)) = .ok (.slice (some ⟨w.heap.size, 0, none⟩) 6 6) (w.alloc (.cells #[.int .u8 38, .int .u8 35, .int .u8 120, .int .u8 52, .int .u8 49, .int .u8 59] 5 (6, 7))) := Lib.run_convert_bytes_const w 22 5 #[.int .u8 38, .int .u8 35, .int .u8 120, .int .u8 52, .int .u8 49, .int .u8 59] 6 6 Tryd.underlying22 Tryd.underlying5
  have hb1 : Below w.heap.size w (w.alloc (.cells #[.int .u8 38, .int .u8 35, .int .u8 120, .int .u8 52, .int .u8 49, .int .u8 59] 5 (6, 7))) := (Below.refl _ _).alloc (Nat.le_refl _) _
  have E : Calls Tryd.prog 11 #[.slice (some ⟨w.heap.size, 0, none⟩) 6 6, .int .i64 0] (w.alloc (.cells #[.int .u8 38, .int .u8 35, .int .u8 120, .int .u8 52, .int .u8 49, .int .u8 59] 5 (6, 7))) fun e w' => e = .returned (.tuple #[.int .i32 (expF lit1 0).1, .int .i64 (expF lit1 0).2.1, .int .i64 (expF lit1 0).2.2]) ∧ Below (w.alloc (.cells #[.int .u8 38, .int .u8 35, .int .u8 120, .int .u8 52, .int .u8 49, .int .u8 59] 5 (6, 7))).heap.size (w.alloc (.cells #[.int .u8 38, .int .u8 35, .int .u8 120, .int .u8 52, .int .u8 49, .int .u8 59] 5 (6, 7))) w' :=
    expand_in lit1 w.heap.size 0 6 0 _ (by decide) (by decide) (by decide) (by decide) (hN.below hb1) (fun j hj => by
      rw [Nat.zero_add, cell_of_row _ _ _ #[.int .u8 38, .int .u8 35, .int .u8 120, .int .u8 52, .int .u8 49, .int .u8 59] 5 (6, 7) (heap_alloc_new w _)]
      exact lit1_cell j hj)
  rw [exp1] at E
  have EE := Lib.hid E
  have HB := Lib.hid hb1
  have HT := Lib.hid hT
  have HN := Lib.hid hN
  clear E hb1 hT hN
  go_enter Tryd.func10, Tryd.ntmps10
  go_wp2_with (fail)
  refine EE.out.mono ?_
  rintro e w1 ⟨rfl, hb⟩
  have hB1 := below_cat HB.out hb
  clear hb k1
  have k2 : (convert 22 22 (.slice (some ⟨w1.heap.size, 0, none⟩) 6 6)).run Tryd.prog (w1.alloc (.cells #[.int .u8 97, .int .u8 38, .int .u8 103, .int .u8 116, .int .u8 59, .int .u8 98] 5)) = .ok (.slice (some ⟨w1.heap.size, 0, none⟩) 6 6) (w1.alloc (.cells #[.int .u8 97, .int .u8 38, .int .u8 103, .int .u8 116, .int .u8 59, .int .u8 98] 5 (6, 7))) := Lib.run_convert_bytes_const w1 22 5 #[.int .u8 97, .int .u8 38, .int .u8 103, .int .u8 116, .int .u8 59, .int .u8 98] 6 6 Tryd.underlying22 Tryd.underlying5
  have hb2 : Below w1.heap.size w1 (w1.alloc (.cells #[.int .u8 97, .int .u8 38, .int .u8 103, .int .u8 116, .int .u8 59, .int .u8 98] 5 (6, 7))) := (Below.refl _ _).alloc (Nat.le_refl _) _
  have hB2 := below_cat hB1 hb2
  have R : Calls Tryd.prog 18 #[.slice (some ⟨w1.heap.size, 0, none⟩) 6 6] (w1.alloc (.cells #[.int .u8 97, .int .u8 38, .int .u8 103, .int .u8 116, .int .u8 59, .int .u8 98] 5 (6, 7))) fun e w' => e = .returned (.tuple #[.string ⟨(readF (stepT lit2) lit2.size).1.toArray⟩, .int .i64 (readF (stepT lit2) lit2.size).2.1, .int .i64 (readF (stepT lit2) lit2.size).2.2]) ∧ Below (w1.alloc (.cells #[.int .u8 97, .int .u8 38, .int .u8 103, .int .u8 116, .int .u8 59, .int .u8 98] 5 (6, 7))).heap.size (w1.alloc (.cells #[.int .u8 97, .int .u8 38, .int .u8 103, .int .u8 116, .int .u8 59, .int .u8 98] 5 (6, 7))) w' :=
    text_read (some ⟨w1.heap.size, 0, none⟩) lit2 6 _ (by decide) (by decide) (HT.out.below hB2) (HN.out.below hB2) (fun _ => ⟨w1.heap.size, 0, rfl, fun j hj => by
      rw [Nat.zero_add, cell_of_row _ _ _ #[.int .u8 97, .int .u8 38, .int .u8 103, .int .u8 116, .int .u8 59, .int .u8 98] 5 (6, 7) (heap_alloc_new w1 _)]
      exact lit2_cell j hj⟩)
  rw [read2] at R
  have RR := Lib.hid R
  have HB2 := Lib.hid hB2
  clear R hb2 hB2
  go_wp2_with (fail)
  refine RR.out.mono ?_
  rintro e w2 ⟨rfl, hb3⟩
  have hB3 := below_cat HB2.out hb3
  clear hb3 k2
  have X := Lib.hid (text_any ⟨#[97, 60, 98]⟩ w2 (by decide))
  rw [text3] at X
  go_wp2_with (fail)
  refine X.out.mono ?_
  rintro e w3 ⟨rfl, hb4⟩
  have hB4 := below_cat hB3 hb4
  clear hb4
  go_wp2_with (fail)
  go_ret
  exact ⟨rfl, hB4⟩
end Go.Proofs.YtdomhjjoijkeaaaDoor
