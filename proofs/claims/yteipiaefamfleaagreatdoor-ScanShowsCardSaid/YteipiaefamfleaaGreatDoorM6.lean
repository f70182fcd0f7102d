/- Proved here: what refer's Expand answers where nothing stands behind; what was there stays. -/
import Derived.Test.YteipiaefamfleaaGreatDoorM4
import Derived.Test.YteipiaefamfleaaGreatDoorM0
import Derived.BigGuardPart
import Derived.Deep.RegionWith
import Derived.Laws.Rows
namespace Go.Proofs.YteipiaefamfleaaGreatDoor
open Go.RowKit

set_option maxHeartbeats 8000000 in
set_option maxRecDepth 100000 in
theorem expand_b (s : ByteArray) (b off cap at_ : Nat) (w : World) (hs : s.size ≤ 140737488355000) (hcap : s.size ≤ cap) (hat : at_ < s.size) (h38 : by_ s at_ = 38) (hlt : ¬ at_ + 1 < s.size) (hN : NamedAt w) (hp : ∀ j, j < s.size → w.cell? ⟨b, off + j, none⟩ = some (.int .u8 (by_ s j))) :
    Calls Tryz.prog 95 #[.slice (some ⟨b, off, none⟩) s.size cap, .int .i64 at_] w fun e w' => e = .returned (.tuple #[.int .i32 (namedGo s at_ 5).1, .int .i64 (namedGo s at_ 5).2.1, .int .i64 (namedGo s at_ 5).2.2]) ∧ Below w.heap.size w w' := by
  obtain ⟨ANS, hA⟩ : ∃ A, namedGo s at_ 5 = A := ⟨_, rfl⟩
  rw [hA]
  have HA := Lib.hid hA
  have HP := Lib.hid hp
  have hatz : (at_ : Int) < (s.size : Int) := by omega
  have c0 := hp at_ hat
  rw [h38] at c0
  have n0 := (hN 0 (by omega)).1
  have n1 := (hN 0 (by omega)).2
  have n2 := (hN 1 (by omega)).1
  have n3 := (hN 1 (by omega)).2
  have n4 := (hN 2 (by omega)).1
  have n5 := (hN 2 (by omega)).2
  have n6 := (hN 3 (by omega)).1
  have n7 := (hN 3 (by omega)).2
  have n8 := (hN 4 (by omega)).1
  have n9 := (hN 4 (by omega)).2
  have hlz : ¬ (at_ : Int) + 1 < (s.size : Int) := by omega
  clear hA hp h38 hN
  go_enter Tryz.func95, Tryz.ntmps95
  go_wp2_with (fail)
  clear n0 n1 n2 n3 n4 n5 n6 n7 n8 n9
  go_loopw [45] (fun i wr => NamedRel s at_ w ANS i wr) (fun i _ => 5 - (intOf i).toNat)
  case atStart => exact ⟨0, rfl, by omega, Below.refl _ _, HA.out⟩
  case round =>
    obtain ⟨k, rfl, hk, hb, hgo⟩ := hrel
    have G := Lib.hid hgo
    clear hgo
    have hbs : (at_ : Int) ≤ (cap : Int) := by omega
    have hbn : (0 : Int) ≤ (at_ : Int) := by omega
    have hbl : (at_ : Int) ≤ (s.size : Int) := by omega
    have hne : ¬ cap = at_ := by omega
    rcases (by omega : k = 0 ∨ k = 1 ∨ k = 2 ∨ k = 3 ∨ k = 4 ∨ k = 5) with rfl | rfl | rfl | rfl | rfl | rfl
    · have IX := index0 wr
      obtain ⟨kc, W2, hcv, hkc, hb2, hsz2, hwc⟩ := bytes_of (wr.alloc (Obj.cells #[.string (wordOf 0), .int .i32 (charOf 0)] 131)).drew (wordOf 0)
      rw [alloc_drew_size] at hcv hwc
      have hB2 : Below w.heap.size w W2 := below_cat (hb.alloc hb.size _).drew hb2
      have HPX := Lib.hid (prefix_at s b off cap at_ 0 _ kc W2 hcap (Nat.le_of_lt hat) (fun j hj => hb_cell hB2 (HP.out j hj)) hwc)
      have hwb := wordOf_size 0
      have hwz : ((wordOf 0).size : Int) ≤ 6 := by omega
      have r0 : W2.cell? ⟨wr.heap.size, 0, none⟩ = some (.string (wordOf 0)) := hb_cell hb2 (alloc_cell0 _ _ _ _)
      have r1 : W2.cell? ⟨wr.heap.size, 1, none⟩ = some (.int .i32 (charOf 0)) := hb_cell hb2 (alloc_cell1 _ _ _ _)
      have R0 := Lib.hid r0
      have R1 := Lib.hid r1
      clear hwc hsz2 hb2 hb r0 r1
      cases hq : pfxB s at_ 0
      · rw [hq] at HPX
        have HN := Lib.hid ((named_no s at_ 4 hq).symm.trans G.out)
        clear hq
        go_wp2_with (fail)
        go_region_with (go_at_call 22; refine (HPX.out).mono ?_; rintro e w' ⟨rfl, rfl⟩)
        go_wp2_with (fail)
        go_roundw
        case rel =>
          go_light
          exact ⟨1, by go_num, by omega, hB2, HN.out⟩
        case measure => simp [intOf]
      · rw [hq] at HPX
        have HN := Lib.hid ((named_yes s at_ 4 hq).symm.trans G.out)
        clear hq
        go_wp2_with (fail)
        go_region_with (go_at_call 22; refine (HPX.out).mono ?_; rintro e w' ⟨rfl, rfl⟩)
        have r0 := R0.out
        have r1 := R1.out
        have hwr : IntKind.i64.wrap ((at_ : Int) + ((wordOf 0).size : Int)) = (at_ : Int) + ((wordOf 0).size : Int) := IntWalk.i64_in _ (by omega)
        go_wp2_with (fail)
        go_region
        go_wp2_with (fail)
        go_ret3
        exact ⟨ret_tri HN.out.symm, hB2.drew⟩
    · have IX := index1 wr
      obtain ⟨kc, W2, hcv, hkc, hb2, hsz2, hwc⟩ := bytes_of (wr.alloc (Obj.cells #[.string (wordOf 1), .int .i32 (charOf 1)] 131)).drew (wordOf 1)
      rw [alloc_drew_size] at hcv hwc
      have hB2 : Below w.heap.size w W2 := below_cat (hb.alloc hb.size _).drew hb2
      have HPX := Lib.hid (prefix_at s b off cap at_ 1 _ kc W2 hcap (Nat.le_of_lt hat) (fun j hj => hb_cell hB2 (HP.out j hj)) hwc)
      have hwb := wordOf_size 1
      have hwz : ((wordOf 1).size : Int) ≤ 6 := by omega
      have r0 : W2.cell? ⟨wr.heap.size, 0, none⟩ = some (.string (wordOf 1)) := hb_cell hb2 (alloc_cell0 _ _ _ _)
      have r1 : W2.cell? ⟨wr.heap.size, 1, none⟩ = some (.int .i32 (charOf 1)) := hb_cell hb2 (alloc_cell1 _ _ _ _)
      have R0 := Lib.hid r0
      have R1 := Lib.hid r1
      clear hwc hsz2 hb2 hb r0 r1
      cases hq : pfxB s at_ 1
      · rw [hq] at HPX
        have HN := Lib.hid ((named_no s at_ 3 hq).symm.trans G.out)
        clear hq
        go_wp2_with (fail)
        go_region_with (go_at_call 22; refine (HPX.out).mono ?_; rintro e w' ⟨rfl, rfl⟩)
        go_wp2_with (fail)
        go_roundw
        case rel =>
          go_light
          exact ⟨2, by go_num, by omega, hB2, HN.out⟩
        case measure => simp [intOf]
      · rw [hq] at HPX
        have HN := Lib.hid ((named_yes s at_ 3 hq).symm.trans G.out)
        clear hq
        go_wp2_with (fail)
        go_region_with (go_at_call 22; refine (HPX.out).mono ?_; rintro e w' ⟨rfl, rfl⟩)
        have r0 := R0.out
        have r1 := R1.out
        have hwr : IntKind.i64.wrap ((at_ : Int) + ((wordOf 1).size : Int)) = (at_ : Int) + ((wordOf 1).size : Int) := IntWalk.i64_in _ (by omega)
        go_wp2_with (fail)
        go_region
        go_wp2_with (fail)
        go_ret3
        exact ⟨ret_tri HN.out.symm, hB2.drew⟩
    · have IX := index2 wr
      obtain ⟨kc, W2, hcv, hkc, hb2, hsz2, hwc⟩ := bytes_of (wr.alloc (Obj.cells #[.string (wordOf 2), .int .i32 (charOf 2)] 131)).drew (wordOf 2)
      rw [alloc_drew_size] at hcv hwc
      have hB2 : Below w.heap.size w W2 := below_cat (hb.alloc hb.size _).drew hb2
      have HPX := Lib.hid (prefix_at s b off cap at_ 2 _ kc W2 hcap (Nat.le_of_lt hat) (fun j hj => hb_cell hB2 (HP.out j hj)) hwc)
      have hwb := wordOf_size 2
      have hwz : ((wordOf 2).size : Int) ≤ 6 := by omega
      have r0 : W2.cell? ⟨wr.heap.size, 0, none⟩ = some (.string (wordOf 2)) := hb_cell hb2 (alloc_cell0 _ _ _ _)
      have r1 : W2.cell? ⟨wr.heap.size, 1, none⟩ = some (.int .i32 (charOf 2)) := hb_cell hb2 (alloc_cell1 _ _ _ _)
      have R0 := Lib.hid r0
      have R1 := Lib.hid r1
      clear hwc hsz2 hb2 hb r0 r1
      cases hq : pfxB s at_ 2
      · rw [hq] at HPX
        have HN := Lib.hid ((named_no s at_ 2 hq).symm.trans G.out)
        clear hq
        go_wp2_with (fail)
        go_region_with (go_at_call 22; refine (HPX.out).mono ?_; rintro e w' ⟨rfl, rfl⟩)
        go_wp2_with (fail)
        go_roundw
        case rel =>
          go_light
          exact ⟨3, by go_num, by omega, hB2, HN.out⟩
        case measure => simp [intOf]
      · rw [hq] at HPX
        have HN := Lib.hid ((named_yes s at_ 2 hq).symm.trans G.out)
        clear hq
        go_wp2_with (fail)
        go_region_with (go_at_call 22; refine (HPX.out).mono ?_; rintro e w' ⟨rfl, rfl⟩)
        have r0 := R0.out
        have r1 := R1.out
        have hwr : IntKind.i64.wrap ((at_ : Int) + ((wordOf 2).size : Int)) = (at_ : Int) + ((wordOf 2).size : Int) := IntWalk.i64_in _ (by omega)
        go_wp2_with (fail)
        go_region
        go_wp2_with (fail)
        go_ret3
        exact ⟨ret_tri HN.out.symm, hB2.drew⟩
    · have IX := index3 wr
      obtain ⟨kc, W2, hcv, hkc, hb2, hsz2, hwc⟩ := bytes_of (wr.alloc (Obj.cells #[.string (wordOf 3), .int .i32 (charOf 3)] 131)).drew (wordOf 3)
      rw [alloc_drew_size] at hcv hwc
      have hB2 : Below w.heap.size w W2 := below_cat (hb.alloc hb.size _).drew hb2
      have HPX := Lib.hid (prefix_at s b off cap at_ 3 _ kc W2 hcap (Nat.le_of_lt hat) (fun j hj => hb_cell hB2 (HP.out j hj)) hwc)
      have hwb := wordOf_size 3
      have hwz : ((wordOf 3).size : Int) ≤ 6 := by omega
      have r0 : W2.cell? ⟨wr.heap.size, 0, none⟩ = some (.string (wordOf 3)) := hb_cell hb2 (alloc_cell0 _ _ _ _)
      have r1 : W2.cell? ⟨wr.heap.size, 1, none⟩ = some (.int .i32 (charOf 3)) := hb_cell hb2 (alloc_cell1 _ _ _ _)
      have R0 := Lib.hid r0
      have R1 := Lib.hid r1
      clear hwc hsz2 hb2 hb r0 r1
      cases hq : pfxB s at_ 3
      · rw [hq] at HPX
        have HN := Lib.hid ((named_no s at_ 1 hq).symm.trans G.out)
        clear hq
        go_wp2_with (fail)
        go_region_with (go_at_call 22; refine (HPX.out).mono ?_; rintro e w' ⟨rfl, rfl⟩)
        go_wp2_with (fail)
        go_roundw
        case rel =>
          go_light
          exact ⟨4, by go_num, by omega, hB2, HN.out⟩
        case measure => simp [intOf]
      · rw [hq] at HPX
        have HN := Lib.hid ((named_yes s at_ 1 hq).symm.trans G.out)
        clear hq
        go_wp2_with (fail)
        go_region_with (go_at_call 22; refine (HPX.out).mono ?_; rintro e w' ⟨rfl, rfl⟩)
        have r0 := R0.out
        have r1 := R1.out
        have hwr : IntKind.i64.wrap ((at_ : Int) + ((wordOf 3).size : Int)) = (at_ : Int) + ((wordOf 3).size : Int) := IntWalk.i64_in _ (by omega)
        go_wp2_with (fail)
        go_region
        go_wp2_with (fail)
        go_ret3
        exact ⟨ret_tri HN.out.symm, hB2.drew⟩
    · have IX := index4 wr
      obtain ⟨kc, W2, hcv, hkc, hb2, hsz2, hwc⟩ := bytes_of (wr.alloc (Obj.cells #[.string (wordOf 4), .int .i32 (charOf 4)] 131)).drew (wordOf 4)
      rw [alloc_drew_size] at hcv hwc
      have hB2 : Below w.heap.size w W2 := below_cat (hb.alloc hb.size _).drew hb2
      have HPX := Lib.hid (prefix_at s b off cap at_ 4 _ kc W2 hcap (Nat.le_of_lt hat) (fun j hj => hb_cell hB2 (HP.out j hj)) hwc)
      have hwb := wordOf_size 4
      have hwz : ((wordOf 4).size : Int) ≤ 6 := by omega
      have r0 : W2.cell? ⟨wr.heap.size, 0, none⟩ = some (.string (wordOf 4)) := hb_cell hb2 (alloc_cell0 _ _ _ _)
      have r1 : W2.cell? ⟨wr.heap.size, 1, none⟩ = some (.int .i32 (charOf 4)) := hb_cell hb2 (alloc_cell1 _ _ _ _)
      have R0 := Lib.hid r0
      have R1 := Lib.hid r1
      clear hwc hsz2 hb2 hb r0 r1
      cases hq : pfxB s at_ 4
      · rw [hq] at HPX
        have HN := Lib.hid ((named_no s at_ 0 hq).symm.trans G.out)
        clear hq
        go_wp2_with (fail)
        go_region_with (go_at_call 22; refine (HPX.out).mono ?_; rintro e w' ⟨rfl, rfl⟩)
        go_wp2_with (fail)
        go_roundw
        case rel =>
          go_light
          exact ⟨5, by go_num, by omega, hB2, HN.out⟩
        case measure => simp [intOf]
      · rw [hq] at HPX
        have HN := Lib.hid ((named_yes s at_ 0 hq).symm.trans G.out)
        clear hq
        go_wp2_with (fail)
        go_region_with (go_at_call 22; refine (HPX.out).mono ?_; rintro e w' ⟨rfl, rfl⟩)
        have r0 := R0.out
        have r1 := R1.out
        have hwr : IntKind.i64.wrap ((at_ : Int) + ((wordOf 4).size : Int)) = (at_ : Int) + ((wordOf 4).size : Int) := IntWalk.i64_in _ (by omega)
        go_wp2_with (fail)
        go_region
        go_wp2_with (fail)
        go_ret3
        exact ⟨ret_tri HN.out.symm, hB2.drew⟩
    · have HN := Lib.hid (G.out)
      go_wp2_with (fail)
      go_ret3
      exact ⟨ret_tri HN.out.symm, hb⟩
end Go.Proofs.YteipiaefamfleaaGreatDoor
