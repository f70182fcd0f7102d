/- Proved here: what the document's Show writes of a right trail. -/
import Derived.Test.YtpcdcndniibalaaDoorTrailRDig
import Derived.Laws.DeepStrings4
namespace Go.Proofs.YtpcdcndniibalaaDoor
open Go.RowKit

set_option maxRecDepth 100000 in
set_option maxHeartbeats 4000000 in
theorem rshow_bz (p : Option Addr) (c : Nat) (w : World) (hat : TrAt w p c ⟨[], false, ⟨#[]⟩, ⟨#[]⟩⟩) (hr : rightT ⟨[], false, ⟨#[]⟩, ⟨#[]⟩⟩ = true)  :
    Calls Tryd.prog 12 #[TrV p c ⟨[], false, ⟨#[]⟩, ⟨#[]⟩⟩] w fun e w' => e = .returned (.string ⟨(showL ⟨[], false, ⟨#[]⟩, ⟨#[]⟩⟩).toArray⟩) ∧ Below w.heap.size w w' := by
  have hr2 := hr
  unfold rightT at hr2
  simp only [Bool.and_eq_true, decide_eq_true_eq] at hr2
  have SO := Lib.hid hr2.1.2
  have SL := Lib.hid (stepsL_len [] hr2.1.2)
  have AT := Lib.hid (fun W (y : Below w.heap.size w W) => (hat.below y).1)
  have HB0 := Lib.hid (And.intro ((Below.refl w.heap.size w).alloc (Nat.le_refl _) (.cells #[.slice p 0 c, .bool false, .string ⟨#[]⟩, .string ⟨#[]⟩] 34)) (t_one w (.cells #[.slice p 0 c, .bool false, .string ⟨#[]⟩, .string ⟨#[]⟩] 34)))
  obtain ⟨⟨b0, b1, b2, b3⟩, -⟩ := t_cells HB0.out.2
  clear hat hr hr2
  unfold TrV
  go_enter Tryd.func12, Tryd.ntmps12
  go_wp2_with (fail)
  have HB1 := Lib.hid HB0.out.1
  have HBX := Lib.hid (BoxT.of (t := ⟨[], false, ⟨#[]⟩, ⟨#[]⟩⟩) HB0.out.2)
  generalize w.alloc (.cells #[.slice p 0 c, .bool false, .string ⟨#[]⟩, .string ⟨#[]⟩] 34) = w1 at *
  clear HB0 b0 b1 b2 b3
  go_loopw [3, 9] (fun v3 v9 wr => ∃ (k : Nat) (z : ByteArray), v9 = .int .i64 (k : Int) ∧ v3 = .string z ∧ k ≤ 0 ∧ Hid (z.data.toList = stepsL (([] : List Int).take k) ∧ Below w1.heap.size w1 wr)) (fun _ v9 _ => 0 - (intOf v9).toNat)
  case atStart => exact ⟨0, ⟨#[]⟩, rfl, rfl, Nat.zero_le _, Lib.hid ⟨rfl, Below.refl _ _⟩⟩
  case round =>
    obtain ⟨k, z, rfl, rfl, hk, HR⟩ := hrel
    obtain ⟨b0, b1, b2, b3⟩ := HBX.out.below HR.out.2
    have hzl := congrArg List.length HR.out.1
    rw [ba_size] at hzl
    have hsl := stepsL_len (([] : List Int).take k) (all_take SO.out k)
    simp only [List.take_nil, List.length_nil, Nat.mul_zero] at hsl
    rw [List.take_nil] at hzl
    · obtain rfl : k = 0 := by omega
      have hzz : z.data.toList = stepsL [] := HR.out.1
      have HB3 := Lib.hid (t_cat HB1.out HR.out.2)
      have hz1 : z = ⟨#[]⟩ := by
        apply ba_ext
        rw [hzz]; rfl
      subst hz1
      have KR := Lib.hid (show (⟨#[47]⟩ : ByteArray) = ⟨(showL ⟨[], false, ⟨#[]⟩, ⟨#[]⟩⟩).toArray⟩ from rfl)
      clear HR hzz hzl hsl
      go_wp2_with (fail)
      go_ret
      exact ⟨by rw [← KR.out]; rfl, HB3.out⟩
set_option maxRecDepth 100000 in
set_option maxHeartbeats 4000000 in
theorem rshow_bs (p : Option Addr) (c : Nat) (l : List Int) (w : World) (hat : TrAt w p c ⟨l, false, ⟨#[]⟩, ⟨#[]⟩⟩) (hr : rightT ⟨l, false, ⟨#[]⟩, ⟨#[]⟩⟩ = true) (hz0 : ¬ l.length = 0) :
    Calls Tryd.prog 12 #[TrV p c ⟨l, false, ⟨#[]⟩, ⟨#[]⟩⟩] w fun e w' => e = .returned (.string ⟨(showL ⟨l, false, ⟨#[]⟩, ⟨#[]⟩⟩).toArray⟩) ∧ Below w.heap.size w w' := by
  have hr2 := hr
  unfold rightT at hr2
  simp only [Bool.and_eq_true, decide_eq_true_eq] at hr2
  have SO := Lib.hid hr2.1.2
  have h64 : (l.length : Int) ≤ 64 := by have := hr2.1.1; omega
  have SL := Lib.hid (stepsL_len l hr2.1.2)
  have AT := Lib.hid (fun W (y : Below w.heap.size w W) => (hat.below y).1)
  have HB0 := Lib.hid (And.intro ((Below.refl w.heap.size w).alloc (Nat.le_refl _) (.cells #[.slice p l.length c, .bool false, .string ⟨#[]⟩, .string ⟨#[]⟩] 34)) (t_one w (.cells #[.slice p l.length c, .bool false, .string ⟨#[]⟩, .string ⟨#[]⟩] 34)))
  obtain ⟨⟨b0, b1, b2, b3⟩, -⟩ := t_cells HB0.out.2
  clear hat hr hr2
  unfold TrV
  go_enter Tryd.func12, Tryd.ntmps12
  go_wp2_with (fail)
  have HB1 := Lib.hid HB0.out.1
  have HBX := Lib.hid (BoxT.of (t := ⟨l, false, ⟨#[]⟩, ⟨#[]⟩⟩) HB0.out.2)
  generalize w.alloc (.cells #[.slice p l.length c, .bool false, .string ⟨#[]⟩, .string ⟨#[]⟩] 34) = w1 at *
  clear HB0 b0 b1 b2 b3
  go_loopw [3, 9] (fun v3 v9 wr => ∃ (k : Nat) (z : ByteArray), v9 = .int .i64 (k : Int) ∧ v3 = .string z ∧ k ≤ l.length ∧ Hid (z.data.toList = stepsL (l.take k) ∧ Below w1.heap.size w1 wr)) (fun _ v9 _ => l.length - (intOf v9).toNat)
  case atStart => exact ⟨0, ⟨#[]⟩, rfl, rfl, Nat.zero_le _, Lib.hid ⟨rfl, Below.refl _ _⟩⟩
  case round =>
    obtain ⟨k, z, rfl, rfl, hk, HR⟩ := hrel
    obtain ⟨b0, b1, b2, b3⟩ := HBX.out.below HR.out.2
    have hzl := congrArg List.length HR.out.1
    rw [ba_size] at hzl
    have hsl := stepsL_len (l.take k) (all_take SO.out k)
    rw [List.length_take] at hsl
    by_cases hlt : k < l.length
    · obtain ⟨g, off, rfl, hc⟩ := AT.out w1 HB1.out (by omega)
      have y1 := t_cell HR.out.2 (hc k hlt)
      clear hc
      have hok := all_at SO.out hlt
      have hst := stepsL_take hlt
      generalize l.getD k 0 = x at *
      have hbd := hok
      simp only [stepOk, Bool.and_eq_true, decide_eq_true_eq] at hbd
      obtain ⟨xn, rfl⟩ : ∃ xn : Nat, x = (xn : Int) := ⟨x.toNat, by omega⟩
      have DG := Lib.hid (digits8_any xn (by omega) wr)
      have hil := itoa_len hok
      have hit := itoa_dig hok
      rw [Int.toNat_natCast] at hit
      rw [hit] at hst hil
      have hdl := ba_len (Lib.decDigits xn)
      have hdt : (⟨(Lib.decDigits xn).toArray⟩ : ByteArray).data.toList = Lib.decDigits xn := rfl
      generalize (⟨(Lib.decDigits xn).toArray⟩ : ByteArray) = dz at *
      have s1 : ¬ z.size + 1 > 9223372036854775807 := by omega
      have s2 : ¬ z.size + 1 + dz.size > 9223372036854775807 := by omega
      have g1 : (k : Int) < (l.length : Int) := by omega
      have KE := Lib.hid (show (z ++ ⟨#[47]⟩ ++ dz).data.toList = stepsL (l.take (k + 1)) by rw [hst, ← HR.out.1, ← hdt]; simp)
      clear hok hst hbd hil hit hdl hdt hzl hsl
      go_wp2_with (fail)
      refine DG.out.mono ?_
      rintro e w3 ⟨rfl, hb3⟩
      have HB3 := Lib.hid (t_cat HR.out.2 hb3)
      clear hb3
      go_wp2_with (fail)
      go_roundw
      case rel =>
        go_light
        exact ⟨k + 1, _, by go_num, rfl, by omega, Lib.hid ⟨KE.out, HB3.out⟩⟩
      case measure => simp [intOf]; omega
    · obtain rfl : k = l.length := by omega
      have hzz : z.data.toList = stepsL l := by rw [HR.out.1, List.take_length]
      have HB3 := Lib.hid (t_cat HB1.out HR.out.2)
      have hzp : 0 < z.size := by
        rw [← ba_size, hzz]
        have := stepsL_ge l
        omega
      have zs := str_ne (s := z) (by omega)
      have zs1 : ¬ z.toList = [] := fun e => by rw [e] at zs; cases zs
      have KR := Lib.hid (show z = ⟨(showL ⟨l, false, ⟨#[]⟩, ⟨#[]⟩⟩).toArray⟩ by
        apply ba_ext
        rw [hzz]
        unfold showL
        rw [if_neg (fun q => hz0 (by rw [show l = [] from q.1]; rfl))]
        simp)
      clear HR hzz hzl hsl hz0 hzp
      go_wp2_with (fail)
      go_ret
      exact ⟨by rw [← KR.out]; rfl, HB3.out⟩
set_option maxRecDepth 100000 in
set_option maxHeartbeats 4000000 in
theorem rshow_az (p : Option Addr) (c : Nat) (n : ByteArray) (w : World) (hat : TrAt w p c ⟨[], true, ⟨#[]⟩, n⟩) (hr : rightT ⟨[], true, ⟨#[]⟩, n⟩ = true)  :
    Calls Tryd.prog 12 #[TrV p c ⟨[], true, ⟨#[]⟩, n⟩] w fun e w' => e = .returned (.string ⟨(showL ⟨[], true, ⟨#[]⟩, n⟩).toArray⟩) ∧ Below w.heap.size w w' := by
  have hr2 := hr
  unfold rightT at hr2
  simp only [Bool.and_eq_true, decide_eq_true_eq] at hr2
  have SO := Lib.hid hr2.1.2
  have SL := Lib.hid (stepsL_len [] hr2.1.2)
  have hnm := hr2.2
  simp only [if_true, nameOk, Bool.and_eq_true, decide_eq_true_eq] at hnm
  have hns : n.size ≤ 100 := name_small hnm.1.1
  clear hnm
  have AT := Lib.hid (fun W (y : Below w.heap.size w W) => (hat.below y).1)
  have HB0 := Lib.hid (And.intro ((Below.refl w.heap.size w).alloc (Nat.le_refl _) (.cells #[.slice p 0 c, .bool true, .string ⟨#[]⟩, .string n] 34)) (t_one w (.cells #[.slice p 0 c, .bool true, .string ⟨#[]⟩, .string n] 34)))
  obtain ⟨⟨b0, b1, b2, b3⟩, -⟩ := t_cells HB0.out.2
  clear hat hr hr2
  unfold TrV
  go_enter Tryd.func12, Tryd.ntmps12
  go_wp2_with (fail)
  have HB1 := Lib.hid HB0.out.1
  have HBX := Lib.hid (BoxT.of (t := ⟨[], true, ⟨#[]⟩, n⟩) HB0.out.2)
  generalize w.alloc (.cells #[.slice p 0 c, .bool true, .string ⟨#[]⟩, .string n] 34) = w1 at *
  clear HB0 b0 b1 b2 b3
  go_loopw [3, 9] (fun v3 v9 wr => ∃ (k : Nat) (z : ByteArray), v9 = .int .i64 (k : Int) ∧ v3 = .string z ∧ k ≤ 0 ∧ Hid (z.data.toList = stepsL (([] : List Int).take k) ∧ Below w1.heap.size w1 wr)) (fun _ v9 _ => 0 - (intOf v9).toNat)
  case atStart => exact ⟨0, ⟨#[]⟩, rfl, rfl, Nat.zero_le _, Lib.hid ⟨rfl, Below.refl _ _⟩⟩
  case round =>
    obtain ⟨k, z, rfl, rfl, hk, HR⟩ := hrel
    obtain ⟨b0, b1, b2, b3⟩ := HBX.out.below HR.out.2
    have hzl := congrArg List.length HR.out.1
    rw [ba_size] at hzl
    have hsl := stepsL_len (([] : List Int).take k) (all_take SO.out k)
    simp only [List.take_nil, List.length_nil, Nat.mul_zero] at hsl
    rw [List.take_nil] at hzl
    · obtain rfl : k = 0 := by omega
      have hzz : z.data.toList = stepsL [] := HR.out.1
      have HB3 := Lib.hid (t_cat HB1.out HR.out.2)
      have s1 : ¬ z.size + 2 > 9223372036854775807 := by omega
      have s2 : ¬ z.size + 2 + n.size > 9223372036854775807 := by omega
      have KR := Lib.hid (show z ++ ⟨#[47, 64]⟩ ++ n = ⟨(showL ⟨[], true, ⟨#[]⟩, n⟩).toArray⟩ by
        apply ba_ext
        unfold showL
        rw [if_neg (fun q => by cases q.2)]
        simp [nameL, spaceL, hzz]; rfl)
      have hne : ¬ (z ++ ⟨#[47, 64]⟩ ++ n).size = 0 := by
        simp only [ByteArray.size_append]
        show ¬ z.size + 2 + n.size = 0
        omega
      have zs := str_ne (s := z ++ ⟨#[47, 64]⟩ ++ n) (Nat.pos_of_ne_zero hne)
      have zs1 : ¬ (z ++ ⟨#[47, 64]⟩ ++ n).toList = [] := fun e => by rw [e] at zs; cases zs
      clear HR hzz hzl hsl hne
      go_upto_region 11 with fail
      generalize z ++ ⟨#[47, 64]⟩ ++ n = r at *
      go_wp2_with (fail)
      go_ret
      exact ⟨by rw [← KR.out]; rfl, HB3.out⟩
set_option maxRecDepth 100000 in
set_option maxHeartbeats 4000000 in
theorem rshow_as (p : Option Addr) (c : Nat) (l : List Int) (n : ByteArray) (w : World) (hat : TrAt w p c ⟨l, true, ⟨#[]⟩, n⟩) (hr : rightT ⟨l, true, ⟨#[]⟩, n⟩ = true) (hz0 : ¬ l.length = 0) :
    Calls Tryd.prog 12 #[TrV p c ⟨l, true, ⟨#[]⟩, n⟩] w fun e w' => e = .returned (.string ⟨(showL ⟨l, true, ⟨#[]⟩, n⟩).toArray⟩) ∧ Below w.heap.size w w' := by
  have hr2 := hr
  unfold rightT at hr2
  simp only [Bool.and_eq_true, decide_eq_true_eq] at hr2
  have SO := Lib.hid hr2.1.2
  have h64 : (l.length : Int) ≤ 64 := by have := hr2.1.1; omega
  have SL := Lib.hid (stepsL_len l hr2.1.2)
  have hnm := hr2.2
  simp only [if_true, nameOk, Bool.and_eq_true, decide_eq_true_eq] at hnm
  have hns : n.size ≤ 100 := name_small hnm.1.1
  clear hnm
  have AT := Lib.hid (fun W (y : Below w.heap.size w W) => (hat.below y).1)
  have HB0 := Lib.hid (And.intro ((Below.refl w.heap.size w).alloc (Nat.le_refl _) (.cells #[.slice p l.length c, .bool true, .string ⟨#[]⟩, .string n] 34)) (t_one w (.cells #[.slice p l.length c, .bool true, .string ⟨#[]⟩, .string n] 34)))
  obtain ⟨⟨b0, b1, b2, b3⟩, -⟩ := t_cells HB0.out.2
  clear hat hr hr2
  unfold TrV
  go_enter Tryd.func12, Tryd.ntmps12
  go_wp2_with (fail)
  have HB1 := Lib.hid HB0.out.1
  have HBX := Lib.hid (BoxT.of (t := ⟨l, true, ⟨#[]⟩, n⟩) HB0.out.2)
  generalize w.alloc (.cells #[.slice p l.length c, .bool true, .string ⟨#[]⟩, .string n] 34) = w1 at *
  clear HB0 b0 b1 b2 b3
  go_loopw [3, 9] (fun v3 v9 wr => ∃ (k : Nat) (z : ByteArray), v9 = .int .i64 (k : Int) ∧ v3 = .string z ∧ k ≤ l.length ∧ Hid (z.data.toList = stepsL (l.take k) ∧ Below w1.heap.size w1 wr)) (fun _ v9 _ => l.length - (intOf v9).toNat)
  case atStart => exact ⟨0, ⟨#[]⟩, rfl, rfl, Nat.zero_le _, Lib.hid ⟨rfl, Below.refl _ _⟩⟩
  case round =>
    obtain ⟨k, z, rfl, rfl, hk, HR⟩ := hrel
    obtain ⟨b0, b1, b2, b3⟩ := HBX.out.below HR.out.2
    have hzl := congrArg List.length HR.out.1
    rw [ba_size] at hzl
    have hsl := stepsL_len (l.take k) (all_take SO.out k)
    rw [List.length_take] at hsl
    by_cases hlt : k < l.length
    · obtain ⟨g, off, rfl, hc⟩ := AT.out w1 HB1.out (by omega)
      have y1 := t_cell HR.out.2 (hc k hlt)
      clear hc
      have hok := all_at SO.out hlt
      have hst := stepsL_take hlt
      generalize l.getD k 0 = x at *
      have hbd := hok
      simp only [stepOk, Bool.and_eq_true, decide_eq_true_eq] at hbd
      obtain ⟨xn, rfl⟩ : ∃ xn : Nat, x = (xn : Int) := ⟨x.toNat, by omega⟩
      have DG := Lib.hid (digits8_any xn (by omega) wr)
      have hil := itoa_len hok
      have hit := itoa_dig hok
      rw [Int.toNat_natCast] at hit
      rw [hit] at hst hil
      have hdl := ba_len (Lib.decDigits xn)
      have hdt : (⟨(Lib.decDigits xn).toArray⟩ : ByteArray).data.toList = Lib.decDigits xn := rfl
      generalize (⟨(Lib.decDigits xn).toArray⟩ : ByteArray) = dz at *
      have s1 : ¬ z.size + 1 > 9223372036854775807 := by omega
      have s2 : ¬ z.size + 1 + dz.size > 9223372036854775807 := by omega
      have g1 : (k : Int) < (l.length : Int) := by omega
      have KE := Lib.hid (show (z ++ ⟨#[47]⟩ ++ dz).data.toList = stepsL (l.take (k + 1)) by rw [hst, ← HR.out.1, ← hdt]; simp)
      clear hok hst hbd hil hit hdl hdt hzl hsl
      go_wp2_with (fail)
      refine DG.out.mono ?_
      rintro e w3 ⟨rfl, hb3⟩
      have HB3 := Lib.hid (t_cat HR.out.2 hb3)
      clear hb3
      go_wp2_with (fail)
      go_roundw
      case rel =>
        go_light
        exact ⟨k + 1, _, by go_num, rfl, by omega, Lib.hid ⟨KE.out, HB3.out⟩⟩
      case measure => simp [intOf]; omega
    · obtain rfl : k = l.length := by omega
      have hzz : z.data.toList = stepsL l := by rw [HR.out.1, List.take_length]
      have HB3 := Lib.hid (t_cat HB1.out HR.out.2)
      have s1 : ¬ z.size + 2 > 9223372036854775807 := by omega
      have s2 : ¬ z.size + 2 + n.size > 9223372036854775807 := by omega
      have KR := Lib.hid (show z ++ ⟨#[47, 64]⟩ ++ n = ⟨(showL ⟨l, true, ⟨#[]⟩, n⟩).toArray⟩ by
        apply ba_ext
        unfold showL
        rw [if_neg (fun q => by cases q.2)]
        simp [nameL, spaceL, hzz]; rfl)
      have hne : ¬ (z ++ ⟨#[47, 64]⟩ ++ n).size = 0 := by
        simp only [ByteArray.size_append]
        show ¬ z.size + 2 + n.size = 0
        omega
      have zs := str_ne (s := z ++ ⟨#[47, 64]⟩ ++ n) (Nat.pos_of_ne_zero hne)
      have zs1 : ¬ (z ++ ⟨#[47, 64]⟩ ++ n).toList = [] := fun e => by rw [e] at zs; cases zs
      clear HR hzz hzl hsl hne
      go_upto_region 11 with fail
      generalize z ++ ⟨#[47, 64]⟩ ++ n = r at *
      go_wp2_with (fail)
      go_ret
      exact ⟨by rw [← KR.out]; rfl, HB3.out⟩
set_option maxRecDepth 100000 in
set_option maxHeartbeats 4000000 in
theorem rshow_auz (p : Option Addr) (c : Nat) (u : ByteArray) (n : ByteArray) (w : World) (hat : TrAt w p c ⟨[], true, u, n⟩) (hr : rightT ⟨[], true, u, n⟩ = true)  (hu0 : ¬ u.size = 0) :
    Calls Tryd.prog 12 #[TrV p c ⟨[], true, u, n⟩] w fun e w' => e = .returned (.string ⟨(showL ⟨[], true, u, n⟩).toArray⟩) ∧ Below w.heap.size w w' := by
  have hr2 := hr
  unfold rightT at hr2
  simp only [Bool.and_eq_true, decide_eq_true_eq] at hr2
  have SO := Lib.hid hr2.1.2
  have SL := Lib.hid (stepsL_len [] hr2.1.2)
  have hnm := hr2.2
  simp only [if_true, nameOk, Bool.and_eq_true, decide_eq_true_eq] at hnm
  have hns : n.size ≤ 100 := name_small hnm.1.1
  have hus : u.size ≤ 100 := hnm.1.2
  clear hnm
  have hu1 := hu0
  clear hu0
  have us := str_ne (s := u) (by omega)
  have us1 : ¬ u.toList = [] := fun e => by rw [e] at us; cases us
  have AT := Lib.hid (fun W (y : Below w.heap.size w W) => (hat.below y).1)
  have HB0 := Lib.hid (And.intro ((Below.refl w.heap.size w).alloc (Nat.le_refl _) (.cells #[.slice p 0 c, .bool true, .string u, .string n] 34)) (t_one w (.cells #[.slice p 0 c, .bool true, .string u, .string n] 34)))
  obtain ⟨⟨b0, b1, b2, b3⟩, -⟩ := t_cells HB0.out.2
  clear hat hr hr2
  unfold TrV
  go_enter Tryd.func12, Tryd.ntmps12
  go_wp2_with (fail)
  have HB1 := Lib.hid HB0.out.1
  have HBX := Lib.hid (BoxT.of (t := ⟨[], true, u, n⟩) HB0.out.2)
  generalize w.alloc (.cells #[.slice p 0 c, .bool true, .string u, .string n] 34) = w1 at *
  clear HB0 b0 b1 b2 b3
  go_loopw [3, 9] (fun v3 v9 wr => ∃ (k : Nat) (z : ByteArray), v9 = .int .i64 (k : Int) ∧ v3 = .string z ∧ k ≤ 0 ∧ Hid (z.data.toList = stepsL (([] : List Int).take k) ∧ Below w1.heap.size w1 wr)) (fun _ v9 _ => 0 - (intOf v9).toNat)
  case atStart => exact ⟨0, ⟨#[]⟩, rfl, rfl, Nat.zero_le _, Lib.hid ⟨rfl, Below.refl _ _⟩⟩
  case round =>
    obtain ⟨k, z, rfl, rfl, hk, HR⟩ := hrel
    obtain ⟨b0, b1, b2, b3⟩ := HBX.out.below HR.out.2
    have hzl := congrArg List.length HR.out.1
    rw [ba_size] at hzl
    have hsl := stepsL_len (([] : List Int).take k) (all_take SO.out k)
    simp only [List.take_nil, List.length_nil, Nat.mul_zero] at hsl
    rw [List.take_nil] at hzl
    · obtain rfl : k = 0 := by omega
      have hzz : z.data.toList = stepsL [] := HR.out.1
      have HB3 := Lib.hid (t_cat HB1.out HR.out.2)
      have s1 : ¬ z.size + 2 > 9223372036854775807 := by omega
      have s2 : ¬ z.size + 2 + n.size > 9223372036854775807 := by omega
      have s3 : ¬ z.size + 2 + n.size + 1 > 9223372036854775807 := by omega
      have s4 : ¬ z.size + 2 + n.size + 1 + u.size > 9223372036854775807 := by omega
      have s5 : ¬ z.size + 2 + n.size + 1 + u.size + 1 > 9223372036854775807 := by omega
      have KR := Lib.hid (show z ++ ⟨#[47, 64]⟩ ++ n ++ ⟨#[123]⟩ ++ u ++ ⟨#[125]⟩ = ⟨(showL ⟨[], true, u, n⟩).toArray⟩ by
        apply ba_ext
        unfold showL
        rw [if_neg (fun q => by cases q.2)]
        simp [nameL, spaceL, hzz, hu1])
      have hne : ¬ (z ++ ⟨#[47, 64]⟩ ++ n ++ ⟨#[123]⟩ ++ u ++ ⟨#[125]⟩).size = 0 := by
        simp only [ByteArray.size_append]
        show ¬ (z.size + 2 + n.size + 1 + u.size + 1) = 0
        omega
      have zs := str_ne (s := z ++ ⟨#[47, 64]⟩ ++ n ++ ⟨#[123]⟩ ++ u ++ ⟨#[125]⟩) (Nat.pos_of_ne_zero hne)
      have zs1 : ¬ (z ++ ⟨#[47, 64]⟩ ++ n ++ ⟨#[123]⟩ ++ u ++ ⟨#[125]⟩).toList = [] := fun e => by rw [e] at zs; cases zs
      clear HR hzz hzl hsl hne
      go_upto_region 11 with fail
      generalize z ++ ⟨#[47, 64]⟩ ++ n ++ ⟨#[123]⟩ ++ u ++ ⟨#[125]⟩ = r at *
      go_wp2_with (fail)
      go_ret
      exact ⟨by rw [← KR.out]; rfl, HB3.out⟩
set_option maxRecDepth 100000 in
set_option maxHeartbeats 4000000 in
theorem rshow_aus (p : Option Addr) (c : Nat) (l : List Int) (u : ByteArray) (n : ByteArray) (w : World) (hat : TrAt w p c ⟨l, true, u, n⟩) (hr : rightT ⟨l, true, u, n⟩ = true) (hz0 : ¬ l.length = 0) (hu0 : ¬ u.size = 0) :
    Calls Tryd.prog 12 #[TrV p c ⟨l, true, u, n⟩] w fun e w' => e = .returned (.string ⟨(showL ⟨l, true, u, n⟩).toArray⟩) ∧ Below w.heap.size w w' := by
  have hr2 := hr
  unfold rightT at hr2
  simp only [Bool.and_eq_true, decide_eq_true_eq] at hr2
  have SO := Lib.hid hr2.1.2
  have h64 : (l.length : Int) ≤ 64 := by have := hr2.1.1; omega
  have SL := Lib.hid (stepsL_len l hr2.1.2)
  have hnm := hr2.2
  simp only [if_true, nameOk, Bool.and_eq_true, decide_eq_true_eq] at hnm
  have hns : n.size ≤ 100 := name_small hnm.1.1
  have hus : u.size ≤ 100 := hnm.1.2
  clear hnm
  have hu1 := hu0
  clear hu0
  have us := str_ne (s := u) (by omega)
  have us1 : ¬ u.toList = [] := fun e => by rw [e] at us; cases us
  have AT := Lib.hid (fun W (y : Below w.heap.size w W) => (hat.below y).1)
  have HB0 := Lib.hid (And.intro ((Below.refl w.heap.size w).alloc (Nat.le_refl _) (.cells #[.slice p l.length c, .bool true, .string u, .string n] 34)) (t_one w (.cells #[.slice p l.length c, .bool true, .string u, .string n] 34)))
  obtain ⟨⟨b0, b1, b2, b3⟩, -⟩ := t_cells HB0.out.2
  clear hat hr hr2
  unfold TrV
  go_enter Tryd.func12, Tryd.ntmps12
  go_wp2_with (fail)
  have HB1 := Lib.hid HB0.out.1
  have HBX := Lib.hid (BoxT.of (t := ⟨l, true, u, n⟩) HB0.out.2)
  generalize w.alloc (.cells #[.slice p l.length c, .bool true, .string u, .string n] 34) = w1 at *
  clear HB0 b0 b1 b2 b3
  go_loopw [3, 9] (fun v3 v9 wr => ∃ (k : Nat) (z : ByteArray), v9 = .int .i64 (k : Int) ∧ v3 = .string z ∧ k ≤ l.length ∧ Hid (z.data.toList = stepsL (l.take k) ∧ Below w1.heap.size w1 wr)) (fun _ v9 _ => l.length - (intOf v9).toNat)
  case atStart => exact ⟨0, ⟨#[]⟩, rfl, rfl, Nat.zero_le _, Lib.hid ⟨rfl, Below.refl _ _⟩⟩
  case round =>
    obtain ⟨k, z, rfl, rfl, hk, HR⟩ := hrel
    obtain ⟨b0, b1, b2, b3⟩ := HBX.out.below HR.out.2
    have hzl := congrArg List.length HR.out.1
    rw [ba_size] at hzl
    have hsl := stepsL_len (l.take k) (all_take SO.out k)
    rw [List.length_take] at hsl
    by_cases hlt : k < l.length
    · obtain ⟨g, off, rfl, hc⟩ := AT.out w1 HB1.out (by omega)
      have y1 := t_cell HR.out.2 (hc k hlt)
      clear hc
      have hok := all_at SO.out hlt
      have hst := stepsL_take hlt
      generalize l.getD k 0 = x at *
      have hbd := hok
      simp only [stepOk, Bool.and_eq_true, decide_eq_true_eq] at hbd
      obtain ⟨xn, rfl⟩ : ∃ xn : Nat, x = (xn : Int) := ⟨x.toNat, by omega⟩
      have DG := Lib.hid (digits8_any xn (by omega) wr)
      have hil := itoa_len hok
      have hit := itoa_dig hok
      rw [Int.toNat_natCast] at hit
      rw [hit] at hst hil
      have hdl := ba_len (Lib.decDigits xn)
      have hdt : (⟨(Lib.decDigits xn).toArray⟩ : ByteArray).data.toList = Lib.decDigits xn := rfl
      generalize (⟨(Lib.decDigits xn).toArray⟩ : ByteArray) = dz at *
      have s1 : ¬ z.size + 1 > 9223372036854775807 := by omega
      have s2 : ¬ z.size + 1 + dz.size > 9223372036854775807 := by omega
      have g1 : (k : Int) < (l.length : Int) := by omega
      have KE := Lib.hid (show (z ++ ⟨#[47]⟩ ++ dz).data.toList = stepsL (l.take (k + 1)) by rw [hst, ← HR.out.1, ← hdt]; simp)
      clear hok hst hbd hil hit hdl hdt hzl hsl
      go_wp2_with (fail)
      refine DG.out.mono ?_
      rintro e w3 ⟨rfl, hb3⟩
      have HB3 := Lib.hid (t_cat HR.out.2 hb3)
      clear hb3
      go_wp2_with (fail)
      go_roundw
      case rel =>
        go_light
        exact ⟨k + 1, _, by go_num, rfl, by omega, Lib.hid ⟨KE.out, HB3.out⟩⟩
      case measure => simp [intOf]; omega
    · obtain rfl : k = l.length := by omega
      have hzz : z.data.toList = stepsL l := by rw [HR.out.1, List.take_length]
      have HB3 := Lib.hid (t_cat HB1.out HR.out.2)
      have s1 : ¬ z.size + 2 > 9223372036854775807 := by omega
      have s2 : ¬ z.size + 2 + n.size > 9223372036854775807 := by omega
      have s3 : ¬ z.size + 2 + n.size + 1 > 9223372036854775807 := by omega
      have s4 : ¬ z.size + 2 + n.size + 1 + u.size > 9223372036854775807 := by omega
      have s5 : ¬ z.size + 2 + n.size + 1 + u.size + 1 > 9223372036854775807 := by omega
      have KR := Lib.hid (show z ++ ⟨#[47, 64]⟩ ++ n ++ ⟨#[123]⟩ ++ u ++ ⟨#[125]⟩ = ⟨(showL ⟨l, true, u, n⟩).toArray⟩ by
        apply ba_ext
        unfold showL
        rw [if_neg (fun q => by cases q.2)]
        simp [nameL, spaceL, hzz, hu1])
      have hne : ¬ (z ++ ⟨#[47, 64]⟩ ++ n ++ ⟨#[123]⟩ ++ u ++ ⟨#[125]⟩).size = 0 := by
        simp only [ByteArray.size_append]
        show ¬ (z.size + 2 + n.size + 1 + u.size + 1) = 0
        omega
      have zs := str_ne (s := z ++ ⟨#[47, 64]⟩ ++ n ++ ⟨#[123]⟩ ++ u ++ ⟨#[125]⟩) (Nat.pos_of_ne_zero hne)
      have zs1 : ¬ (z ++ ⟨#[47, 64]⟩ ++ n ++ ⟨#[123]⟩ ++ u ++ ⟨#[125]⟩).toList = [] := fun e => by rw [e] at zs; cases zs
      clear HR hzz hzl hsl hne
      go_upto_region 11 with fail
      generalize z ++ ⟨#[47, 64]⟩ ++ n ++ ⟨#[123]⟩ ++ u ++ ⟨#[125]⟩ = r at *
      go_wp2_with (fail)
      go_ret
      exact ⟨by rw [← KR.out]; rfl, HB3.out⟩
theorem rshow_any (p : Option Addr) (c : Nat) (t : Tr) (w : World) (hat : TrAt w p c t) (hr : rightT t = true) :
    Calls Tryd.prog 12 #[TrV p c t] w fun e w' => e = .returned (.string ⟨(showL t).toArray⟩) ∧ Below w.heap.size w w' := by
  obtain ⟨l, a, u, n⟩ := t
  cases a
  · have h2 := hr
    unfold rightT at h2
    simp only [Bool.and_eq_true, decide_eq_true_eq, Bool.false_eq_true, if_false] at h2
    obtain rfl := ba_empty h2.2.1
    obtain rfl := ba_empty h2.2.2
    by_cases h0 : l.length = 0
    · obtain rfl := List.eq_nil_of_length_eq_zero h0
      exact rshow_bz p c w hat hr
    · exact rshow_bs p c l w hat hr h0
  · by_cases h1 : u.size = 0
    · obtain rfl := ba_empty h1
      by_cases h0 : l.length = 0
      · obtain rfl := List.eq_nil_of_length_eq_zero h0
        exact rshow_az p c n w hat hr
      · exact rshow_as p c l n w hat hr h0
    · by_cases h0 : l.length = 0
      · obtain rfl := List.eq_nil_of_length_eq_zero h0
        exact rshow_auz p c u n w hat hr h1
      · exact rshow_aus p c l u n w hat hr h0 h1
end Go.Proofs.YtpcdcndniibalaaDoor
