/- Proved here: what the statement's apart answers: each byte that means something as a number. -/
import Derived.Test.YteipiaefamfleaaGreatDoorM27
import Derived.Test.YteipiaefamfleaaGreatDoorM30
import Derived.Test.YteipiaefamfleaaGreatDoorM0
import Derived.BigGuardPart
import Derived.Laws.DeepStrings4
namespace Go.Proofs.YteipiaefamfleaaGreatDoor
open Go.RowKit

theorem three_str (w : World) (x y z : Int) (a b d : Nat) (hx : x = a) (hy : y = b) (hz : z = d) (ha : a < 256) (hb : b < 256) (hd : d < 256) : (convert 22 9 (.slice (some ⟨w.heap.size, 0, none⟩) 3 3)).run Tryz.prog (w.alloc (.cells #[.int .u8 x, .int .u8 y, .int .u8 z] 5)) = .ok (.string ⟨#[UInt8.ofNat a, UInt8.ofNat b, UInt8.ofNat d]⟩) (w.alloc (.cells #[.int .u8 x, .int .u8 y, .int .u8 z] 5)) := by
  subst hx hy hz
  have hh : (w.alloc (.cells #[.int .u8 (a : Int), .int .u8 (b : Int), .int .u8 (d : Int)] 5)).heap[w.heap.size]? = some (.cells #[.int .u8 (a : Int), .int .u8 (b : Int), .int .u8 (d : Int)] 5) := heap_alloc_new w _
  have hp : HoldsB (w.alloc (.cells #[.int .u8 (a : Int), .int .u8 (b : Int), .int .u8 (d : Int)] 5)) (some ⟨w.heap.size, 0, none⟩) ⟨#[UInt8.ofNat a, UInt8.ofNat b, UInt8.ofNat d]⟩ := fun _ => ⟨_, _, rfl, fun j hj => by
    have hj1 : j < 3 := hj
    rw [cell_of_row _ _ _ #[.int .u8 (a : Int), .int .u8 (b : Int), .int .u8 (d : Int)] 5 _ hh]
    rcases (show j = 0 ∨ j = 1 ∨ j = 2 by omega) with rfl | rfl | rfl
    · show some (Value.int .u8 (a : Int)) = some (.int .u8 ((UInt8.ofNat a).toNat : Int))
      rw [UInt8.toNat_ofNat', Nat.mod_eq_of_lt ha]
    · show some (Value.int .u8 (b : Int)) = some (.int .u8 ((UInt8.ofNat b).toNat : Int))
      rw [UInt8.toNat_ofNat', Nat.mod_eq_of_lt hb]
    · show some (Value.int .u8 (d : Int)) = some (.int .u8 ((UInt8.ofNat d).toNat : Int))
      rw [UInt8.toNat_ofNat', Nat.mod_eq_of_lt hd]⟩
  exact conv_str hp 3 (fun e => by cases e)
def ApRel (v : ByteArray) (w : World) (v3 v4 : Value) (wr : World) : Prop := ∃ (i : Nat) (o : ByteArray), v3 = .string o ∧ v4 = .int .i64 (i : Int) ∧ i ≤ v.size ∧ o.size ≤ 6 * i ∧ Hid (o.data.toList = (v.data.toList.take i).flatMap apartOne ∧ Below w.heap.size w wr)
theorem ap_step {v o p : ByteArray} {i : Nat} (hi : i < v.size) (ho : o.data.toList = (v.data.toList.take i).flatMap apartOne) (hp : p.data.toList = apartOne (v.get! i)) : (o ++ p).data.toList = (v.data.toList.take (i + 1)).flatMap apartOne := by
  have hil : i < v.data.toList.length := by rw [size_list]; exact hi
  have e : v.data.toList[i] = v.get! i := by
    show v.data.toList[i] = v.data[i]!
    rw [getElem!_pos v.data i hi]; rfl
  rw [List.take_add_one, List.getElem?_eq_getElem hil, Option.toList_some, List.flatMap_append, List.flatMap_cons, List.flatMap_nil, List.append_nil, e, ← hp, ← ho]
  simp
theorem ap_step3 {v o p q r : ByteArray} {i : Nat} (hi : i < v.size) (ho : o.data.toList = (v.data.toList.take i).flatMap apartOne) (hp : (p ++ q ++ r).data.toList = apartOne (v.get! i)) : (o ++ p ++ q ++ r).data.toList = (v.data.toList.take (i + 1)).flatMap apartOne := by
  have h := ap_step hi ho hp
  rw [← h]
  simp
theorem ap_three {v : ByteArray} {i n : Nat} (hn : (v.get! i).toNat = n) (h : n = 38 ∨ n = 60 ∨ n = 39 ∨ n < 32) : ((⟨#[38, 35]⟩ : ByteArray) ++ ⟨#[UInt8.ofNat (48 + n / 100), UInt8.ofNat (48 + n / 10 % 10), UInt8.ofNat (48 + n % 10)]⟩ ++ ⟨#[59]⟩).data.toList = apartOne (v.get! i) := by
  have e : v.get! i = UInt8.ofNat n := by rw [← hn]; simp
  have h2 : n < 64 := by omega
  have key : ∀ n : Fin 64, (n.val = 38 ∨ n.val = 60 ∨ n.val = 39 ∨ n.val < 32) → ((⟨#[38, 35]⟩ : ByteArray) ++ ⟨#[UInt8.ofNat (48 + n.val / 100), UInt8.ofNat (48 + n.val / 10 % 10), UInt8.ofNat (48 + n.val % 10)]⟩ ++ ⟨#[59]⟩).data.toList = apartOne (UInt8.ofNat n.val) := by decide +kernel
  rw [e]
  exact key ⟨n, h2⟩ h
theorem ap_self {v : ByteArray} {i : Nat} (hi : i < v.size) (h : ¬ ((v.get! i).toNat = 38 ∨ (v.get! i).toNat = 60 ∨ (v.get! i).toNat = 39 ∨ (v.get! i).toNat < 32)) : (v.extract i (i + 1)).data.toList = apartOne (v.get! i) := by
  unfold apartOne
  rw [if_neg h]
  have hil : i < v.data.toList.length := by rw [size_list]; exact hi
  have e : v.data.toList[i] = v.get! i := by
    show v.data.toList[i] = v.data[i]!
    rw [getElem!_pos v.data i hi]; rfl
  rw [ByteArray.data_extract, Array.toList_extract, List.extract_eq_take_drop, List.drop_eq_getElem_cons hil, e, Nat.add_sub_cancel_left]
  rfl
set_option maxRecDepth 100000 in
set_option maxHeartbeats 4000000 in
theorem apart_any (v : ByteArray) (w : World) (hv : v.size ≤ 20000000000000) :
    Calls Tryz.prog 14 #[.string v] w fun e w' => e = .returned (.string ⟨(v.data.toList.flatMap apartOne).toArray⟩) ∧ Below w.heap.size w w' := by
  have gv : (v.size : Int) ≤ 20000000000000 := by omega
  have HV := Lib.hid hv
  clear hv
  go_enter Tryz.func14, Tryz.ntmps14
  go_wp2_with (fail)
  go_loopw [3, 4] (fun v3 v4 wr => ApRel v w v3 v4 wr) (fun _ b _ => v.size - (intOf b).toNat)
  case atStart => exact ⟨0, ⟨#[]⟩, rfl, rfl, Nat.zero_le _, Nat.zero_le _, Lib.hid ⟨rfl, Below.refl _ _⟩⟩
  case round =>
    obtain ⟨i, o, rfl, rfl, hi, ho, HO⟩ := hrel
    by_cases hlt : i < v.size
    · have gi : (i : Int) < (v.size : Int) := by omega
      have hone : ∃ n : Nat, (v.get! i).toNat = n ∧ n < 256 := ⟨_, rfl, UInt8.toNat_lt _⟩
      obtain ⟨n, hn, hn256⟩ := hone
      have hx : (v[i]'hlt) = v.get! i := by
        show v.data[i] = v.data[i]!
        rw [getElem!_pos v.data i hlt]
      have hid1 : ∀ W, (Instr.index 9 (.string v) (.int .i64 (i : Int))).run Tryz.prog W = .ok (.int .u8 (n : Int)) W := fun W => by
        rw [index_str v i hlt W, by_get v i hlt, ← hn, ← hx]
      have gn : (n : Int) < 256 := by omega
      have z1 : ¬ o.size + 2 > 9223372036854775807 := by have := HV.out; omega
      by_cases hb : n = 38 ∨ n = 60 ∨ n = 39 ∨ n < 32
      · have HI := Lib.hid (And.intro hlt (And.intro ho hn))
        clear hlt hi ho hn hx
        have hoz : o.size ≤ 6 * 20000000000000 := by have := HV.out; have := HI.out.2.1; have := HI.out.1; omega
        rcases hb with hb | hb | hb | hb
        · subst hb
          have hv3 := three_str wr 48 51 56 48 51 56 rfl rfl rfl (by decide) (by decide) (by decide)
          have HS := Lib.hid (ap_three (v := v) (i := i) (n := 38) HI.out.2.2 (by decide))
          have hD3 : (⟨#[UInt8.ofNat 48, UInt8.ofNat 51, UInt8.ofNat 56]⟩ : ByteArray).size = 3 := rfl
          have HS := Lib.hid (show ((⟨#[38, 35]⟩ : ByteArray) ++ ⟨#[UInt8.ofNat 48, UInt8.ofNat 51, UInt8.ofNat 56]⟩ ++ ⟨#[59]⟩).data.toList = apartOne (v.get! i) from HS.out)
          generalize (⟨#[UInt8.ofNat 48, UInt8.ofNat 51, UInt8.ofNat 56]⟩ : ByteArray) = D at *
          have HD := Lib.hid hD3
          have z2 : ¬ o.size + 2 + D.size > 9223372036854775807 := by omega
          have z3 : ¬ o.size + 2 + D.size + 1 > 9223372036854775807 := by omega
          clear hD3
          go_wp2_with (fail)
          go_round
          case rel => exact ⟨i + 1, _, rfl, by go_num, HI.out.1, by simp only [ByteArray.size_append]; have := HI.out.2.1; have := HD.out; show o.size + 2 + D.size + 1 ≤ _; omega, Lib.hid ⟨ap_step3 HI.out.1 HO.out.1 HS.out, (HO.out.2).alloc (HO.out.2).size _⟩⟩
          case measure => have := HI.out.1; simp [intOf]; omega
        · subst hb
          have hv3 := three_str wr 48 54 48 48 54 48 rfl rfl rfl (by decide) (by decide) (by decide)
          have HS := Lib.hid (ap_three (v := v) (i := i) (n := 60) HI.out.2.2 (by decide))
          have hD3 : (⟨#[UInt8.ofNat 48, UInt8.ofNat 54, UInt8.ofNat 48]⟩ : ByteArray).size = 3 := rfl
          have HS := Lib.hid (show ((⟨#[38, 35]⟩ : ByteArray) ++ ⟨#[UInt8.ofNat 48, UInt8.ofNat 54, UInt8.ofNat 48]⟩ ++ ⟨#[59]⟩).data.toList = apartOne (v.get! i) from HS.out)
          generalize (⟨#[UInt8.ofNat 48, UInt8.ofNat 54, UInt8.ofNat 48]⟩ : ByteArray) = D at *
          have HD := Lib.hid hD3
          have z2 : ¬ o.size + 2 + D.size > 9223372036854775807 := by omega
          have z3 : ¬ o.size + 2 + D.size + 1 > 9223372036854775807 := by omega
          clear hD3
          go_wp2_with (fail)
          go_round
          case rel => exact ⟨i + 1, _, rfl, by go_num, HI.out.1, by simp only [ByteArray.size_append]; have := HI.out.2.1; have := HD.out; show o.size + 2 + D.size + 1 ≤ _; omega, Lib.hid ⟨ap_step3 HI.out.1 HO.out.1 HS.out, (HO.out.2).alloc (HO.out.2).size _⟩⟩
          case measure => have := HI.out.1; simp [intOf]; omega
        · subst hb
          have hv3 := three_str wr 48 51 57 48 51 57 rfl rfl rfl (by decide) (by decide) (by decide)
          have HS := Lib.hid (ap_three (v := v) (i := i) (n := 39) HI.out.2.2 (by decide))
          have hD3 : (⟨#[UInt8.ofNat 48, UInt8.ofNat 51, UInt8.ofNat 57]⟩ : ByteArray).size = 3 := rfl
          have HS := Lib.hid (show ((⟨#[38, 35]⟩ : ByteArray) ++ ⟨#[UInt8.ofNat 48, UInt8.ofNat 51, UInt8.ofNat 57]⟩ ++ ⟨#[59]⟩).data.toList = apartOne (v.get! i) from HS.out)
          generalize (⟨#[UInt8.ofNat 48, UInt8.ofNat 51, UInt8.ofNat 57]⟩ : ByteArray) = D at *
          have HD := Lib.hid hD3
          have z2 : ¬ o.size + 2 + D.size > 9223372036854775807 := by omega
          have z3 : ¬ o.size + 2 + D.size + 1 > 9223372036854775807 := by omega
          clear hD3
          go_wp2_with (fail)
          go_round
          case rel => exact ⟨i + 1, _, rfl, by go_num, HI.out.1, by simp only [ByteArray.size_append]; have := HI.out.2.1; have := HD.out; show o.size + 2 + D.size + 1 ≤ _; omega, Lib.hid ⟨ap_step3 HI.out.1 HO.out.1 HS.out, (HO.out.2).alloc (HO.out.2).size _⟩⟩
          case measure => have := HI.out.1; simp [intOf]; omega
        · have gb : (n : Int) < 32 := by omega
          have t1 : ((n : Int) == 38) = false := by rw [beq_eq_false_iff_ne]; omega
          have t2 : ((n : Int) == 60) = false := by rw [beq_eq_false_iff_ne]; omega
          have t3 : ((n : Int) == 39) = false := by rw [beq_eq_false_iff_ne]; omega
          have hv3 := three_str wr (48 + (n : Int) / 100) (48 + (n : Int) / 10 % 10) (48 + (n : Int) % 10) (48 + n / 100) (48 + n / 10 % 10) (48 + n % 10) (by omega) (by omega) (by omega) (by omega) (by omega) (by omega)
          have HS := Lib.hid (ap_three (v := v) (i := i) (n := n) HI.out.2.2 (by omega))
          have hD3 : (⟨#[UInt8.ofNat (48 + n / 100), UInt8.ofNat (48 + n / 10 % 10), UInt8.ofNat (48 + n % 10)]⟩ : ByteArray).size = 3 := rfl
          clear hb
          generalize (⟨#[UInt8.ofNat (48 + n / 100), UInt8.ofNat (48 + n / 10 % 10), UInt8.ofNat (48 + n % 10)]⟩ : ByteArray) = D at *
          have HD := Lib.hid hD3
          have z2 : ¬ o.size + 2 + D.size > 9223372036854775807 := by omega
          have z3 : ¬ o.size + 2 + D.size + 1 > 9223372036854775807 := by omega
          clear hD3
          go_wp2_with (fail)
          go_round
          case rel => exact ⟨i + 1, _, rfl, by go_num, HI.out.1, by simp only [ByteArray.size_append]; have := HI.out.2.1; have := HD.out; show o.size + 2 + D.size + 1 ≤ _; omega, Lib.hid ⟨ap_step3 HI.out.1 HO.out.1 HS.out, (HO.out.2).alloc (HO.out.2).size _⟩⟩
          case measure => have := HI.out.1; simp [intOf]; omega
      · have t0 : ¬ (n : Int) < 32 := by omega
        have t1 : ((n : Int) == 38) = false := by rw [beq_eq_false_iff_ne]; omega
        have t2 : ((n : Int) == 60) = false := by rw [beq_eq_false_iff_ne]; omega
        have t3 : ((n : Int) == 39) = false := by rw [beq_eq_false_iff_ne]; omega
        have i2 : (i : Int) ≤ (i : Int) + 1 := by omega
        have i3 : (i : Int) + 1 ≤ (v.size : Int) := by omega
        have i4 : ((i : Int) + 1).toNat = i + 1 := by omega
        have hes : (v.extract i (i + 1)).size = 1 := by rw [ByteArray.size_extract]; omega
        have z4 : ¬ o.size + (v.extract i (i + 1)).size > 9223372036854775807 := by rw [hes]; have := HV.out; omega
        have HI := Lib.hid (And.intro hlt (And.intro ho (And.intro hn hes)))
        have HS := Lib.hid (ap_self (v := v) (i := i) hlt (by rw [hn]; omega))
        clear hlt hi ho hn hx hb hes
        go_wp2_with (fail)
        go_round
        case rel => exact ⟨i + 1, _, rfl, by go_num, HI.out.1, by rw [ByteArray.size_append, HI.out.2.2.2]; have := HI.out.2.1; omega, Lib.hid ⟨ap_step HI.out.1 HO.out.1 HS.out, HO.out.2⟩⟩
        case measure => have := HI.out.1; simp [intOf]; omega
    · obtain rfl : i = v.size := by omega
      go_wp2_with (fail)
      go_ret
      refine ⟨?_, HO.out.2⟩
      have e := HO.out.1
      rw [List.take_of_length_le (by rw [size_list]; exact Nat.le_refl _)] at e
      rw [← e]
      rfl
end Go.Proofs.YteipiaefamfleaaGreatDoor
