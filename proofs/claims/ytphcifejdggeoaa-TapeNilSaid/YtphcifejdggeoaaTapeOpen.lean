/- Proved here: a tape on a drum that nobody has written to. -/
import Derived.Test.YtphcifejdggeoaaTapeTake
import Derived.Test.YtphcifejdggeoaaDrumActs
namespace Go.Proofs.Ytphcifejdggeoaa
open Go.RowKit

theorem zeroB_ofL (n : Nat) : zeroB n = ofL (zL n) := by
  unfold zeroB ofL zL
  rfl
def tapeV (G lo hi gen groups used : Nat) (down : Bool) : Array Value := #[.pointer (some ⟨G, 0, none⟩), .int .i64 (lo : Int), .int .i64 (hi : Int), .int .i64 (gen : Int), .int .i64 (groups : Int), .int .i64 (used : Int), .bool down]
set_option maxRecDepth 100000 in
set_option maxHeartbeats 8000000 in
theorem open_new {w W : World} {F : Nat → Prop} {G : Nat} (h : DW w W F G 4 (newM 4)) :
    Calls Try.prog 22 #[.pointer (some ⟨G, 0, none⟩), .int .i64 0, .int .i64 4, .int .i64 1] W fun e W' => ∃ t, e = .returned (.tuple #[.pointer (some ⟨t, 0, none⟩), .slice none 0 0, .int .i64 0]) ∧ DW w W' F G 4 (newM 4).step ∧ W'.heap[t]? = some (.cells (tapeV G 0 4 1 0 0 false) 118 (0, 0)) ∧ ¬ F t ∧ w.heap.size ≤ t := by
  have SC := Lib.hid (sectors_any W F G 4 (newM 4) h.drum)
  have HH := Lib.hid h
  clear h
  go_enter Try.func22, Try.ntmps22
  go_wp2_with (fail)
  refine SC.out.mono ?_
  rintro e W' ⟨rfl, rfl⟩
  obtain ⟨W1, hW1⟩ : ∃ W1, W.alloc (.cells #[.int .i64 1, .slice none 0 0, .int .i64 0, .slice none 0 0, .int .i64 0, .int .i64 0] 115) = W1 := ⟨_, rfl⟩
  have n1 : W1.heap[W.heap.size]? = some (.cells #[.int .i64 1, .slice none 0 0, .int .i64 0, .slice none 0 0, .int .i64 0, .int .i64 0] 115 (0, 0)) := by rw [← hW1]; exact heap_alloc_new _ _
  have b1 : Below W.heap.size W W1 := by rw [← hW1]; exact (Below.refl _ _).alloc (Nat.le_refl _) _
  have H1 := Lib.hid (And.intro n1 (And.intro b1 (And.intro (HH.out.on b1) (show ¬ F W.heap.size from fun f => by have := HH.out.drum.lt _ f; omega))))
  have HW1 := Lib.hid hW1
  clear n1 b1 SC hW1
  go_wp2_with (fail)
  rw [HW1.out]
  clear HW1
  go_loopw [42] (fun x wr => x = .int .i64 0 ∧ wr = W1) (fun _ _ => 0)
  case atStart => exact ⟨rfl, rfl⟩
  case round =>
    obtain ⟨rfl, rfl⟩ := hrel
    have RD := dread_ok H1.out.2.2.1 ⟨by decide, by decide, by decide⟩ (by rfl) 0 (by decide)
    rw [show (newM 4).now.getD 0 ⟨#[]⟩ = ofL (zL 64) from zeroB_ofL 64] at RD
    have HRD := Lib.hid RD
    clear RD
    go_wp2_with (fail)
    refine HRD.out.mono ?_
    rintro e W4 ⟨g4, rfl, d4, o4, z4, nf4, t4⟩
    have m4 := (t4.block W.heap.size (obj_lt H1.out.1) (fun e => H1.out.2.2.2 (e ▸ H1.out.2.2.1.drum.fG))).trans H1.out.1
    have H4 := Lib.hid (And.intro d4 (And.intro o4.holds m4))
    clear d4 o4 z4 nf4 t4 m4 HRD
    go_wp2_with (fail)
    refine (take_blank W.heap.size g4 0 64 W4 H4.out.2.2 H4.out.2.1).mono ?_
    rintro e W5 ⟨rfl, b5⟩
    have m5 := (b5.block _ (obj_lt H4.out.2.2)).trans H4.out.2.2
    have x1 : W5.cell? ⟨W.heap.size, 1, none⟩ = some (.slice none 0 0) := by rw [cell_of_row _ _ _ _ _ _ m5]; rfl
    have x2 : W5.cell? ⟨W.heap.size, 2, none⟩ = some (.int .i64 0) := by rw [cell_of_row _ _ _ _ _ _ m5]; rfl
    have H5 := Lib.hid (And.intro (H4.out.1.on b5) m5)
    clear b5 m5
    go_wp2_with (fail)
    obtain ⟨W6, hW6⟩ : ∃ W6, W5.alloc (.cells #[.pointer (some ⟨G, 0, none⟩), .int .i64 0, .int .i64 4, .int .i64 1, .int .i64 0, .int .i64 0, .bool false] 118) = W6 := ⟨_, rfl⟩
    have b56 : Below W5.heap.size W5 W6 := by rw [← hW6]; exact (Below.refl _ _).alloc (Nat.le_refl _) _
    have n6 : W6.heap[W5.heap.size]? = some (.cells (tapeV G 0 4 1 0 0 false) 118 (0, 0)) := by rw [← hW6]; exact heap_alloc_new _ _
    have y1 : W6.cell? ⟨W.heap.size, 1, none⟩ = some (.slice none 0 0) := hb_cell b56 x1
    have H6 := Lib.hid (And.intro (H5.out.1.on b56) (And.intro n6 (show ¬ F W5.heap.size from fun f => by have := H5.out.1.drum.lt _ f; omega)))
    rw [hW6]
    clear x1 x2 b56 n6 hW6
    go_region
    go_wp2_with (fail)
    go_ret3
    exact ⟨_, rfl, H6.out.1.on (Below.refl _ _).drew, H6.out.2.1, H6.out.2.2, H5.out.1.below.size⟩
end Go.Proofs.Ytphcifejdggeoaa
