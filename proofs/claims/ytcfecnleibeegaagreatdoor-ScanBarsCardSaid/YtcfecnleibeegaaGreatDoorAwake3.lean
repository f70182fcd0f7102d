/- Proved here: the scan statements' own first look (awake) answers true in every world that holds what the scanner leans on. -/
import Derived.Test.YtcfecnleibeegaaGreatDoorPlain
import Derived.Test.YtcfecnleibeegaaGreatDoorTokCells
namespace Go.Proofs.YtcfecnleibeegaaGreatDoor
open Go.RowKit

def scanL1 : ByteArray := ⟨#[60, 97, 62, 120, 38, 97, 109, 112, 59, 121, 60, 47, 97, 62]⟩
def scanL2 : ByteArray := ⟨#[60, 97, 32, 98, 61, 39, 49, 39, 32, 98, 61, 39, 50, 39, 62]⟩
theorem scanL1_cell (j : Nat) (h : j < 14) : ((#[.int .u8 60, .int .u8 97, .int .u8 62, .int .u8 120, .int .u8 38, .int .u8 97, .int .u8 109, .int .u8 112, .int .u8 59, .int .u8 121, .int .u8 60, .int .u8 47, .int .u8 97, .int .u8 62] : Array Value))[j]? = some (.int .u8 ((scanL1.get! j).toNat : Int)) := by
  match j, h with
  | 0, _ => rfl
  | 1, _ => rfl
  | 2, _ => rfl
  | 3, _ => rfl
  | 4, _ => rfl
  | 5, _ => rfl
  | 6, _ => rfl
  | 7, _ => rfl
  | 8, _ => rfl
  | 9, _ => rfl
  | 10, _ => rfl
  | 11, _ => rfl
  | 12, _ => rfl
  | 13, _ => rfl
theorem scanL2_cell (j : Nat) (h : j < 15) : ((#[.int .u8 60, .int .u8 97, .int .u8 32, .int .u8 98, .int .u8 61, .int .u8 39, .int .u8 49, .int .u8 39, .int .u8 32, .int .u8 98, .int .u8 61, .int .u8 39, .int .u8 50, .int .u8 39, .int .u8 62] : Array Value))[j]? = some (.int .u8 ((scanL2.get! j).toNat : Int)) := by
  match j, h with
  | 0, _ => rfl
  | 1, _ => rfl
  | 2, _ => rfl
  | 3, _ => rfl
  | 4, _ => rfl
  | 5, _ => rfl
  | 6, _ => rfl
  | 7, _ => rfl
  | 8, _ => rfl
  | 9, _ => rfl
  | 10, _ => rfl
  | 11, _ => rfl
  | 12, _ => rfl
  | 13, _ => rfl
  | 14, _ => rfl

def tokA : Nat × Tok := (0, ⟨2, ⟨#[97]⟩, [], ⟨#[]⟩, 0⟩)
def tokB : Nat × Tok := (3, ⟨5, ⟨#[]⟩, [], ⟨#[120, 38, 121]⟩, 1⟩)
def tokE : Nat × Tok := (10, ⟨3, ⟨#[97]⟩, [], ⟨#[]⟩, 0⟩)
theorem all1 : allF scanL1 = .ok [tokA, tokB, tokE] := by kernel_rfl
theorem all2 : allF scanL2 = .error (0, 27) := by kernel_rfl
/-- All that the scanner leans on, in one. -/
structure Leans (w : World) : Prop where
  tabs : Tabs w
  named : NamedAt w
  max : MaxAt w
  fold : FoldAt w
theorem Leans.below {w W : World} (h : Leans w) (hb : Below w.heap.size w W) : Leans W :=
  ⟨h.tabs.below hb, h.named.below hb, by
    obtain ⟨m, hm⟩ := h.max
    exact ⟨m, hb_cell hb hm⟩, h.fold.below hb⟩
set_option maxHeartbeats 4000000 in
set_option maxRecDepth 100000 in
theorem awake3_any (w : World) (hL : Leans w) : Calls Tryz.prog 8 #[] w fun e w' => e = .returned (.bool true) ∧ Below w.heap.size w w' := by
  have k1 : (convert 22 22 (.slice (some ⟨w.heap.size, 0, none⟩) 14 14)).run Tryz.prog (w.alloc (.cells #[.int .u8 60, .int .u8 97, .int .u8 62, .int .u8 120, .int .u8 38, .int .u8 97, .int .u8 109, .int .u8 112, .int .u8 59, .int .u8 121, .int .u8 60, .int .u8 47, .int .u8 97, .int .u8 62] 5)) = .ok (.slice (some ⟨w.heap.size, 0, none⟩) 14 14) (w.alloc (.cells #[.int .u8 60, .int .u8 97, .int .u8 62, .int .u8 120, .int .u8 38, .int .u8 97, .int .u8 109, .int .u8 112, .int .u8 59, .int .u8 121, .int .u8 60, .int .u8 47, .int .u8 97, .int .u8 62] 5 (14, 15))) := Lib.run_convert_bytes_const w 22 5 #[.int .u8 60, .int .u8 97, .int .u8 62, .int .u8 120, .int .u8 38, .int .u8 97, .int .u8 109, .int .u8 112, .int .u8 59, .int .u8 121, .int .u8 60, .int .u8 47, .int .u8 97, .int .u8 62] 14 14 Tryz.underlying22 Tryz.underlying5
  have hb1 : Below w.heap.size w (w.alloc (.cells #[.int .u8 60, .int .u8 97, .int .u8 62, .int .u8 120, .int .u8 38, .int .u8 97, .int .u8 109, .int .u8 112, .int .u8 59, .int .u8 121, .int .u8 60, .int .u8 47, .int .u8 97, .int .u8 62] 5 (14, 15))) := (Below.refl _ _).alloc (Nat.le_refl _) _
  have A1 := all_any (some ⟨w.heap.size, 0, none⟩) scanL1 14 _ (by decide) (by decide) (fun _ => ⟨w.heap.size, 0, rfl, fun j hj => by
    rw [Nat.zero_add, cell_of_row _ _ _ #[.int .u8 60, .int .u8 97, .int .u8 62, .int .u8 120, .int .u8 38, .int .u8 97, .int .u8 109, .int .u8 112, .int .u8 59, .int .u8 121, .int .u8 60, .int .u8 47, .int .u8 97, .int .u8 62] 5 (14, 15) (heap_alloc_new w _)]
    exact scanL1_cell j hj⟩) (hL.below hb1).tabs (hL.below hb1).named (hL.below hb1).max (hL.below hb1).fold
  rw [all1] at A1
  have AH := Lib.hid A1
  have HB := Lib.hid hb1
  have HL := Lib.hid hL
  clear A1 hb1 hL
  go_enter Tryz.func8, Tryz.ntmps8
  go_wp2_with (fail)
  refine AH.out.mono ?_
  rintro e w1 ⟨hpost, hb⟩
  obtain ⟨v, he, hl⟩ := hpost
  subst he
  have hB1 := below_cat HB.out hb
  obtain ⟨g, c, hv, hlc, hcm, hgl, _, pv, hcell⟩ := hl.cell (by decide)
  rw [show [tokA, tokB, tokE].length = 3 from rfl] at hv hlc
  have x10 : w1.cell? ⟨g, 10, none⟩ = some (.string ⟨#[120, 38, 121]⟩) := (hcell 1 tokB rfl).2.2.2.2.2.1
  have x11 : w1.cell? ⟨g, 11, none⟩ = some (.int .i64 1) := (hcell 1 tokB rfl).2.2.2.2.2.2
  have x12 : w1.cell? ⟨g, 12, none⟩ = some (.int .i64 3) := (hcell 2 tokE rfl).2.1
  have x13 : w1.cell? ⟨g, 13, none⟩ = some (.int .i64 10) := (hcell 2 tokE rfl).2.2.1
  subst hv
  have HX := Lib.hid (And.intro hB1 (And.intro x10 (And.intro x11 (And.intro x12 x13))))
  have HC := Lib.hid (And.intro hlc hcm)
  clear hb hl hB1 hcell x10 x11 x12 x13 hgl k1 AH hlc hcm
  have k2 : (convert 22 22 (.slice (some ⟨w1.heap.size, 0, none⟩) 15 15)).run Tryz.prog (w1.alloc (.cells #[.int .u8 60, .int .u8 97, .int .u8 32, .int .u8 98, .int .u8 61, .int .u8 39, .int .u8 49, .int .u8 39, .int .u8 32, .int .u8 98, .int .u8 61, .int .u8 39, .int .u8 50, .int .u8 39, .int .u8 62] 5)) = .ok (.slice (some ⟨w1.heap.size, 0, none⟩) 15 15) (w1.alloc (.cells #[.int .u8 60, .int .u8 97, .int .u8 32, .int .u8 98, .int .u8 61, .int .u8 39, .int .u8 49, .int .u8 39, .int .u8 32, .int .u8 98, .int .u8 61, .int .u8 39, .int .u8 50, .int .u8 39, .int .u8 62] 5 (15, 16))) := Lib.run_convert_bytes_const w1 22 5 #[.int .u8 60, .int .u8 97, .int .u8 32, .int .u8 98, .int .u8 61, .int .u8 39, .int .u8 49, .int .u8 39, .int .u8 32, .int .u8 98, .int .u8 61, .int .u8 39, .int .u8 50, .int .u8 39, .int .u8 62] 15 15 Tryz.underlying22 Tryz.underlying5
  have hb2 : Below w1.heap.size w1 (w1.alloc (.cells #[.int .u8 60, .int .u8 97, .int .u8 32, .int .u8 98, .int .u8 61, .int .u8 39, .int .u8 49, .int .u8 39, .int .u8 32, .int .u8 98, .int .u8 61, .int .u8 39, .int .u8 50, .int .u8 39, .int .u8 62] 5 (15, 16))) := (Below.refl _ _).alloc (Nat.le_refl _) _
  have hB2 := below_cat HX.out.1 hb2
  have A2 := all_any (some ⟨w1.heap.size, 0, none⟩) scanL2 15 _ (by decide) (by decide) (fun _ => ⟨w1.heap.size, 0, rfl, fun j hj => by
    rw [Nat.zero_add, cell_of_row _ _ _ #[.int .u8 60, .int .u8 97, .int .u8 32, .int .u8 98, .int .u8 61, .int .u8 39, .int .u8 49, .int .u8 39, .int .u8 32, .int .u8 98, .int .u8 61, .int .u8 39, .int .u8 50, .int .u8 39, .int .u8 62] 5 (15, 16) (heap_alloc_new w1 _)]
    exact scanL2_cell j hj⟩) (HL.out.below hB2).tabs (HL.out.below hB2).named (HL.out.below hB2).max (HL.out.below hB2).fold
  rw [all2] at A2
  have AH := Lib.hid A2
  have HB2 := Lib.hid hb2
  clear A2 hb2 hB2
  go_wp2_with (fail)
  refine AH.out.mono ?_
  rintro e w2 ⟨hpost, hb⟩
  have he : e = .returned (.tuple #[.slice none 0 0, .int .i64 ((0 : Nat) : Int), .int .i64 ((27 : Nat) : Int)]) := hpost
  subst he
  have hB3 := below_cat HB2.out hb
  have y10 := hb_cell hB3 HX.out.2.1
  have y11 := hb_cell hB3 HX.out.2.2.1
  have y12 := hb_cell hB3 HX.out.2.2.2.1
  have y13 := hb_cell hB3 HX.out.2.2.2.2
  have hz0 : ((0 : Nat) : Int) = 0 := rfl
  have hz27 : ((27 : Nat) : Int) = 27 := rfl
  rw [hz0, hz27]
  have HB4 := Lib.hid (below_cat HX.out.1 hB3)
  clear hb hpost hB3 k2 AH hz0 hz27
  go_wp2_with (fail)
  go_ret
  exact ⟨rfl, HB4.out⟩
end Go.Proofs.YtcfecnleibeegaaGreatDoor
