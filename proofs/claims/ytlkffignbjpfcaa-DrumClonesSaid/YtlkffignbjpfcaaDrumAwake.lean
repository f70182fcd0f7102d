/- Proved here: the answers of a drum that each of its laws asks first are as the document fixes them. -/
import Derived.Test.YtlkffignbjpfcaaDrumDW
import Derived.Lib.SlBytesConst
namespace Go.Proofs.Ytlkffignbjpfcaa
open Go.RowKit

def mA : DM := (newM 2).write 0 ⟨#[97]⟩
def mB : DM := mA.flush
def mC : DM := mB.write 0 ⟨#[98]⟩
def mD : DM := mC.write 1 ⟨#[99]⟩
def mE : DM := mD.crash [false, true]
def mF : DM := mE.step
def mG : DM := mF.step
set_option maxRecDepth 100000 in
set_option maxHeartbeats 16000000 in
theorem awake13_any (w : World) : Calls Try.prog 5 #[] w fun e w' => e = .returned (.bool true) ∧ Below w.heap.size w w' := by
  have kc := fun (w : World) (C : Array Value) (n c : Nat) => Lib.run_convert_bytes_const (P := Try.prog) w 33 5 C n c Try.underlying33 Try.underlying5
  have NW := Lib.hid (new_ok 2 (by decide) (by decide) w)
  go_enter Try.func5, Try.ntmps5
  go_wp2_with (fail)
  refine (NW.out).mono ?_
  rintro e W1 ⟨G, F1, rfl, hd, hb, hF⟩
  have D1 := Lib.hid (DW.mk hd hb hF)
  clear hd hb hF NW
  go_wp2_with (fail)
  refine (write1 D1.out (by decide) (by decide) (by decide) 0 (by decide) 97 _ _ (by decide)).mono ?_
  rintro e W2 ⟨rfl, F2, hd⟩
  have D2 := Lib.hid (show DW w W2 F2 G 2 mA from hd)
  clear hd D1
  go_wp2_with (fail)
  refine (flush_ok _ F2 G 2 mA D2.out.drum (by decide +kernel) (by decide +kernel) (by decide +kernel) (by decide +kernel)).mono ?_
  rintro e W3 ⟨rfl, hd, ht⟩
  have D3 := Lib.hid (show DW w W3 F2 G 2 mB from D2.out.same hd ht)
  clear hd ht D2
  go_wp2_with (fail)
  refine (write1 D3.out (by decide +kernel) (by decide +kernel) (by decide +kernel) 0 (by decide) 98 _ _ (by decide +kernel)).mono ?_
  rintro e W4 ⟨rfl, F4, hd⟩
  have D4 := Lib.hid (show DW w W4 F4 G 2 mC from hd)
  clear hd D3
  go_wp2_with (fail)
  refine (write1 D4.out (by decide +kernel) (by decide +kernel) (by decide +kernel) 1 (by decide) 99 _ _ (by decide +kernel)).mono ?_
  rintro e W5 ⟨rfl, F5, hd⟩
  have D5 := Lib.hid (show DW w W5 F5 G 2 mD from hd)
  clear hd D4
  go_wp2_with (fail)
  have hkp : HoldsT (W5.alloc (.cells #[.bool false, .bool true] 4)) (some ⟨W5.heap.size, 0, none⟩) [false, true] := fun _ => ⟨W5.heap.size, 0, rfl, fun j hj => by
    rw [cell_of_row _ _ _ _ _ _ (heap_alloc_new W5 _)]
    have : j = 0 ∨ j = 1 := by simp at hj; omega
    rcases this with rfl | rfl <;> rfl⟩
  refine (crash_any _ F5 G 2 mD (D5.out.alloc _).drum (by decide +kernel) (some ⟨W5.heap.size, 0, none⟩) [false, true] 2 hkp (by decide) (fun a e => by injection e with e; rw [← e]; exact D5.out.new (Nat.le_refl _))).mono ?_
  rintro e W6 ⟨rfl, hd, ht⟩
  have D6 := Lib.hid (show DW w W6 F5 G 2 mE from (D5.out.alloc _).same hd ht)
  clear hd ht D5 hkp
  go_wp2_with (fail)
  refine (read_ok _ F5 G 2 mE D6.out.drum (by decide +kernel) (by decide +kernel) (by decide +kernel) 0 (by decide)).mono ?_
  rintro e W7 ⟨g1, rfl, ho, hs, hd, ht, hg⟩
  have D7 := Lib.hid (show DW w W7 F5 G 2 mF from D6.out.only hd ht)
  have c1 := ho.cell0 (x := 97) (by omega) (by decide +kernel)
  have hg1 : g1 ≠ G := fun e => hg (e ▸ hd.fG)
  have hl1 := ho.2.2.1
  have C1 := Lib.hid (And.intro c1 (And.intro hg1 hl1))
  clear ho hs hd ht hg D6 c1 hg1 hl1
  go_wp2_with (fail)
  refine (read_ok _ F5 G 2 mF D7.out.drum (by decide +kernel) (by decide +kernel) (by decide +kernel) 1 (by decide)).mono ?_
  rintro e W8 ⟨g2, rfl, ho, hs, hd, ht, hg⟩
  have D8 := Lib.hid (show DW w W8 F5 G 2 mG from D7.out.only hd ht)
  have c2 := ho.cell0 (x := 99) (by omega) (by decide +kernel)
  have c1 : W8.cell? ⟨g1, 0, none⟩ = some (.int .u8 97) := (World.cell?_of_block (w := W7) (ht.block g1 C1.out.2.2 C1.out.2.1)).trans C1.out.1
  have c2' : W8.cell? ⟨g2, 0, none⟩ = some (.int .u8 99) := c2
  have ST := steps_any W8 F5 G 2 mG D8.out.drum
  have e6 : ((mG.steps : Nat) : Int) = 6 := by decide +kernel
  rw [e6] at ST
  have SX := Lib.hid ST
  clear ho hs hd ht hg D7 C1 c2 ST e6
  go_wp2_with (refine (SX.out).mono ?_; rintro e W9 ⟨rfl, rfl⟩)
  go_ret
  exact ⟨rfl, D8.out.below⟩
end Go.Proofs.Ytlkffignbjpfcaa
