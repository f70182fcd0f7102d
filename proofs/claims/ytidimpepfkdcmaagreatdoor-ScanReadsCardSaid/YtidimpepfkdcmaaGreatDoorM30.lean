/- Proved here: what the document's word answers at every place of any bytes; the world stays as it was. -/
import Derived.Test.YtidimpepfkdcmaaGreatDoorM0
import Derived.BigGuardPart
namespace Go.Proofs.YtidimpepfkdcmaaGreatDoor
open Go.RowKit

theorem wstr0 (W : World) : (Instr.index 116 (.agg #[.string ⟨#[108, 116, 59]⟩, .string ⟨#[103, 116, 59]⟩, .string ⟨#[97, 109, 112, 59]⟩, .string ⟨#[97, 112, 111, 115, 59]⟩, .string ⟨#[113, 117, 111, 116, 59]⟩]) (.int .i64 0)).run Tryz.prog W = .ok (.string ⟨#[108, 116, 59]⟩) W := by kernel_rfl
theorem wint0 (W : World) : (Instr.index 117 (.agg #[.int .i64 60, .int .i64 62, .int .i64 38, .int .i64 39, .int .i64 34]) (.int .i64 0)).run Tryz.prog W = .ok (.int .i64 60) W := by kernel_rfl
theorem wstr1 (W : World) : (Instr.index 116 (.agg #[.string ⟨#[108, 116, 59]⟩, .string ⟨#[103, 116, 59]⟩, .string ⟨#[97, 109, 112, 59]⟩, .string ⟨#[97, 112, 111, 115, 59]⟩, .string ⟨#[113, 117, 111, 116, 59]⟩]) (.int .i64 1)).run Tryz.prog W = .ok (.string ⟨#[103, 116, 59]⟩) W := by kernel_rfl
theorem wint1 (W : World) : (Instr.index 117 (.agg #[.int .i64 60, .int .i64 62, .int .i64 38, .int .i64 39, .int .i64 34]) (.int .i64 1)).run Tryz.prog W = .ok (.int .i64 62) W := by kernel_rfl
theorem wstr2 (W : World) : (Instr.index 116 (.agg #[.string ⟨#[108, 116, 59]⟩, .string ⟨#[103, 116, 59]⟩, .string ⟨#[97, 109, 112, 59]⟩, .string ⟨#[97, 112, 111, 115, 59]⟩, .string ⟨#[113, 117, 111, 116, 59]⟩]) (.int .i64 2)).run Tryz.prog W = .ok (.string ⟨#[97, 109, 112, 59]⟩) W := by kernel_rfl
theorem wint2 (W : World) : (Instr.index 117 (.agg #[.int .i64 60, .int .i64 62, .int .i64 38, .int .i64 39, .int .i64 34]) (.int .i64 2)).run Tryz.prog W = .ok (.int .i64 38) W := by kernel_rfl
theorem wstr3 (W : World) : (Instr.index 116 (.agg #[.string ⟨#[108, 116, 59]⟩, .string ⟨#[103, 116, 59]⟩, .string ⟨#[97, 109, 112, 59]⟩, .string ⟨#[97, 112, 111, 115, 59]⟩, .string ⟨#[113, 117, 111, 116, 59]⟩]) (.int .i64 3)).run Tryz.prog W = .ok (.string ⟨#[97, 112, 111, 115, 59]⟩) W := by kernel_rfl
theorem wint3 (W : World) : (Instr.index 117 (.agg #[.int .i64 60, .int .i64 62, .int .i64 38, .int .i64 39, .int .i64 34]) (.int .i64 3)).run Tryz.prog W = .ok (.int .i64 39) W := by kernel_rfl
theorem wstr4 (W : World) : (Instr.index 116 (.agg #[.string ⟨#[108, 116, 59]⟩, .string ⟨#[103, 116, 59]⟩, .string ⟨#[97, 109, 112, 59]⟩, .string ⟨#[97, 112, 111, 115, 59]⟩, .string ⟨#[113, 117, 111, 116, 59]⟩]) (.int .i64 4)).run Tryz.prog W = .ok (.string ⟨#[113, 117, 111, 116, 59]⟩) W := by kernel_rfl
theorem wint4 (W : World) : (Instr.index 117 (.agg #[.int .i64 60, .int .i64 62, .int .i64 38, .int .i64 39, .int .i64 34]) (.int .i64 4)).run Tryz.prog W = .ok (.int .i64 34) W := by kernel_rfl
theorem cut_str (s : ByteArray) (b off cap a n : Nat) (w : World) (h : a + n ≤ s.size) (hp : ∀ j, j < s.size → w.cell? ⟨b, off + j, none⟩ = some (.int .u8 (by_ s j))) :
    (convert 22 9 (.slice (some ⟨b, off + a, none⟩) n cap)).run Tryz.prog w = .ok (.string (s.extract a (a + n))) w := by
  have hz : (s.extract a (a + n)).size = n := by simp; omega
  have hh : HoldsB w (some ⟨b, off + a, none⟩) (s.extract a (a + n)) := fun _ => ⟨b, off + a, rfl, fun j hj => by
    rw [hz] at hj
    rw [Nat.add_assoc, hp (a + j) (by omega)]
    unfold by_
    have e : (s.extract a (a + n)).get! j = s.get! (a + j) := by
      show (s.extract a (a + n)).data[j]! = s.data[a + j]!
      rw [getElem!_pos _ _ (by simp; omega), getElem!_pos s.data (a + j) (show a + j < s.data.size by have : s.data.size = s.size := rfl; omega)]
      simp
    rw [e]⟩
  have := conv_str hh cap (fun e => by cases e)
  rw [hz] at this
  exact this
theorem ret_two {A : Int × Int} {x y : Int} (h : A = (x, y)) : Ending.returned (.tuple #[.int .i64 x, .int .i64 y]) = .returned (.tuple #[.int .i64 A.1, .int .i64 A.2]) := by rw [h]
set_option maxHeartbeats 8000000 in
set_option maxRecDepth 100000 in
theorem word_some (s : ByteArray) (b off cap a : Nat) (w : World) (hs : s.size ≤ 140737488355000) (hcap : s.size ≤ cap) (ha : a ≤ s.size) (hp : ∀ j, j < s.size → w.cell? ⟨b, off + j, none⟩ = some (.int .u8 (by_ s j))) :
    Calls Tryz.prog 76 #[.slice (some ⟨b, off, none⟩) s.size cap, .int .i64 a] w fun e w' => e = .returned (.tuple #[.int .i64 (wordGo s a 5).1, .int .i64 (wordGo s a 5).2]) ∧ w = w' := by
  obtain ⟨ANS, hA⟩ : ∃ A, wordGo s a 5 = A := ⟨_, rfl⟩
  rw [hA]
  have HA := Lib.hid hA
  have HP := Lib.hid hp
  clear hA hp
  go_enter Tryz.func76, Tryz.ntmps76
  go_wp2_with (fail)
  go_loop [6] (fun i => ∃ k : Nat, i = .int .i64 k ∧ k ≤ 5 ∧ wordGo s a (5 - k) = ANS) (fun i => 5 - (intOf i).toNat)
  case atStart => exact ⟨0, rfl, by omega, HA.out⟩
  case round =>
    obtain ⟨k, rfl, hk, hgo⟩ := hrel
    have G := Lib.hid hgo
    clear hgo
    have h1 : (0 : Int) ≤ (a : Int) := by omega
    rcases (by omega : k = 0 ∨ k = 1 ∨ k = 2 ∨ k = 3 ∨ k = 4 ∨ k = 5) with rfl | rfl | rfl | rfl | rfl | rfl
    · have IX := wstr0 w
      have IY := wint0 w
      by_cases hlt : a + 3 ≤ s.size
      · have hz : (a : Int) + 3 ≤ (s.size : Int) := by omega
        have hne : ¬ cap = a := by omega
        have h2 : (a : Int) + 3 ≤ (cap : Int) := by omega
        have h3 : (a : Int) ≤ (a : Int) + 3 := by omega
        have h4 : ((a : Int) + 3).toNat = a + 3 := by omega
        have cv := cut_str s b off (cap - a) a 3 w hlt HP.out
        have hd : decide (a + (wrdL 0).length ≤ s.size) = true := decide_eq_true hlt
        cases hq : ((s.extract a (a + 3)).toList == [108, 116, 59])
        · have hw : wB s a 0 = false := by unfold wB; rw [hd]; exact hq
          have HN := Lib.hid ((wordGo_no s a 4 hw).symm.trans G.out)
          clear hw hd
          go_wp2_with (fail)
          go_round
          case rel =>
            go_light
            exact ⟨1, by go_num, by omega, HN.out⟩
          case measure => simp [intOf]
        · have hw : wB s a 0 = true := by unfold wB; rw [hd]; exact hq
          have HN := Lib.hid ((wordGo_yes s a 4 hw).symm.trans G.out)
          clear hw hd
          go_wp2_with (fail)
          go_ret2
          exact ⟨ret_two HN.out.symm, rfl⟩
      · have hz : ¬ (a : Int) + 3 ≤ (s.size : Int) := by omega
        have hw : wB s a 0 = false := by unfold wB; rw [decide_eq_false (show ¬ a + (wrdL 0).length ≤ s.size from hlt)]; rfl
        have HN := Lib.hid ((wordGo_no s a 4 hw).symm.trans G.out)
        clear hw hlt
        go_wp2_with (fail)
        go_round
        case rel =>
          go_light
          exact ⟨1, by go_num, by omega, HN.out⟩
        case measure => simp [intOf]
    · have IX := wstr1 w
      have IY := wint1 w
      by_cases hlt : a + 3 ≤ s.size
      · have hz : (a : Int) + 3 ≤ (s.size : Int) := by omega
        have hne : ¬ cap = a := by omega
        have h2 : (a : Int) + 3 ≤ (cap : Int) := by omega
        have h3 : (a : Int) ≤ (a : Int) + 3 := by omega
        have h4 : ((a : Int) + 3).toNat = a + 3 := by omega
        have cv := cut_str s b off (cap - a) a 3 w hlt HP.out
        have hd : decide (a + (wrdL 1).length ≤ s.size) = true := decide_eq_true hlt
        cases hq : ((s.extract a (a + 3)).toList == [103, 116, 59])
        · have hw : wB s a 1 = false := by unfold wB; rw [hd]; exact hq
          have HN := Lib.hid ((wordGo_no s a 3 hw).symm.trans G.out)
          clear hw hd
          go_wp2_with (fail)
          go_round
          case rel =>
            go_light
            exact ⟨2, by go_num, by omega, HN.out⟩
          case measure => simp [intOf]
        · have hw : wB s a 1 = true := by unfold wB; rw [hd]; exact hq
          have HN := Lib.hid ((wordGo_yes s a 3 hw).symm.trans G.out)
          clear hw hd
          go_wp2_with (fail)
          go_ret2
          exact ⟨ret_two HN.out.symm, rfl⟩
      · have hz : ¬ (a : Int) + 3 ≤ (s.size : Int) := by omega
        have hw : wB s a 1 = false := by unfold wB; rw [decide_eq_false (show ¬ a + (wrdL 1).length ≤ s.size from hlt)]; rfl
        have HN := Lib.hid ((wordGo_no s a 3 hw).symm.trans G.out)
        clear hw hlt
        go_wp2_with (fail)
        go_round
        case rel =>
          go_light
          exact ⟨2, by go_num, by omega, HN.out⟩
        case measure => simp [intOf]
    · have IX := wstr2 w
      have IY := wint2 w
      by_cases hlt : a + 4 ≤ s.size
      · have hz : (a : Int) + 4 ≤ (s.size : Int) := by omega
        have hne : ¬ cap = a := by omega
        have h2 : (a : Int) + 4 ≤ (cap : Int) := by omega
        have h3 : (a : Int) ≤ (a : Int) + 4 := by omega
        have h4 : ((a : Int) + 4).toNat = a + 4 := by omega
        have cv := cut_str s b off (cap - a) a 4 w hlt HP.out
        have hd : decide (a + (wrdL 2).length ≤ s.size) = true := decide_eq_true hlt
        cases hq : ((s.extract a (a + 4)).toList == [97, 109, 112, 59])
        · have hw : wB s a 2 = false := by unfold wB; rw [hd]; exact hq
          have HN := Lib.hid ((wordGo_no s a 2 hw).symm.trans G.out)
          clear hw hd
          go_wp2_with (fail)
          go_round
          case rel =>
            go_light
            exact ⟨3, by go_num, by omega, HN.out⟩
          case measure => simp [intOf]
        · have hw : wB s a 2 = true := by unfold wB; rw [hd]; exact hq
          have HN := Lib.hid ((wordGo_yes s a 2 hw).symm.trans G.out)
          clear hw hd
          go_wp2_with (fail)
          go_ret2
          exact ⟨ret_two HN.out.symm, rfl⟩
      · have hz : ¬ (a : Int) + 4 ≤ (s.size : Int) := by omega
        have hw : wB s a 2 = false := by unfold wB; rw [decide_eq_false (show ¬ a + (wrdL 2).length ≤ s.size from hlt)]; rfl
        have HN := Lib.hid ((wordGo_no s a 2 hw).symm.trans G.out)
        clear hw hlt
        go_wp2_with (fail)
        go_round
        case rel =>
          go_light
          exact ⟨3, by go_num, by omega, HN.out⟩
        case measure => simp [intOf]
    · have IX := wstr3 w
      have IY := wint3 w
      by_cases hlt : a + 5 ≤ s.size
      · have hz : (a : Int) + 5 ≤ (s.size : Int) := by omega
        have hne : ¬ cap = a := by omega
        have h2 : (a : Int) + 5 ≤ (cap : Int) := by omega
        have h3 : (a : Int) ≤ (a : Int) + 5 := by omega
        have h4 : ((a : Int) + 5).toNat = a + 5 := by omega
        have cv := cut_str s b off (cap - a) a 5 w hlt HP.out
        have hd : decide (a + (wrdL 3).length ≤ s.size) = true := decide_eq_true hlt
        cases hq : ((s.extract a (a + 5)).toList == [97, 112, 111, 115, 59])
        · have hw : wB s a 3 = false := by unfold wB; rw [hd]; exact hq
          have HN := Lib.hid ((wordGo_no s a 1 hw).symm.trans G.out)
          clear hw hd
          go_wp2_with (fail)
          go_round
          case rel =>
            go_light
            exact ⟨4, by go_num, by omega, HN.out⟩
          case measure => simp [intOf]
        · have hw : wB s a 3 = true := by unfold wB; rw [hd]; exact hq
          have HN := Lib.hid ((wordGo_yes s a 1 hw).symm.trans G.out)
          clear hw hd
          go_wp2_with (fail)
          go_ret2
          exact ⟨ret_two HN.out.symm, rfl⟩
      · have hz : ¬ (a : Int) + 5 ≤ (s.size : Int) := by omega
        have hw : wB s a 3 = false := by unfold wB; rw [decide_eq_false (show ¬ a + (wrdL 3).length ≤ s.size from hlt)]; rfl
        have HN := Lib.hid ((wordGo_no s a 1 hw).symm.trans G.out)
        clear hw hlt
        go_wp2_with (fail)
        go_round
        case rel =>
          go_light
          exact ⟨4, by go_num, by omega, HN.out⟩
        case measure => simp [intOf]
    · have IX := wstr4 w
      have IY := wint4 w
      by_cases hlt : a + 5 ≤ s.size
      · have hz : (a : Int) + 5 ≤ (s.size : Int) := by omega
        have hne : ¬ cap = a := by omega
        have h2 : (a : Int) + 5 ≤ (cap : Int) := by omega
        have h3 : (a : Int) ≤ (a : Int) + 5 := by omega
        have h4 : ((a : Int) + 5).toNat = a + 5 := by omega
        have cv := cut_str s b off (cap - a) a 5 w hlt HP.out
        have hd : decide (a + (wrdL 4).length ≤ s.size) = true := decide_eq_true hlt
        cases hq : ((s.extract a (a + 5)).toList == [113, 117, 111, 116, 59])
        · have hw : wB s a 4 = false := by unfold wB; rw [hd]; exact hq
          have HN := Lib.hid ((wordGo_no s a 0 hw).symm.trans G.out)
          clear hw hd
          go_wp2_with (fail)
          go_round
          case rel =>
            go_light
            exact ⟨5, by go_num, by omega, HN.out⟩
          case measure => simp [intOf]
        · have hw : wB s a 4 = true := by unfold wB; rw [hd]; exact hq
          have HN := Lib.hid ((wordGo_yes s a 0 hw).symm.trans G.out)
          clear hw hd
          go_wp2_with (fail)
          go_ret2
          exact ⟨ret_two HN.out.symm, rfl⟩
      · have hz : ¬ (a : Int) + 5 ≤ (s.size : Int) := by omega
        have hw : wB s a 4 = false := by unfold wB; rw [decide_eq_false (show ¬ a + (wrdL 4).length ≤ s.size from hlt)]; rfl
        have HN := Lib.hid ((wordGo_no s a 0 hw).symm.trans G.out)
        clear hw hlt
        go_wp2_with (fail)
        go_round
        case rel =>
          go_light
          exact ⟨5, by go_num, by omega, HN.out⟩
        case measure => simp [intOf]
    · have HN := Lib.hid (G.out)
      go_wp2_with (fail)
      go_ret2
      exact ⟨ret_two HN.out.symm, rfl⟩
end Go.Proofs.YtidimpepfkdcmaaGreatDoor
