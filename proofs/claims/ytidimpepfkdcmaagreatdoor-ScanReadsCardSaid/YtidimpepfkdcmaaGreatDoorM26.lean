/- Proved here: what the document's One answers at each way but the characters. | Proved here: what the document's One answers at each way but the characters. -/
import Derived.Test.YtidimpepfkdcmaaGreatDoorM24
namespace Go.Proofs.YtidimpepfkdcmaaGreatDoor
open Go.RowKit

set_option maxRecDepth 100000 in
set_option maxHeartbeats 1000000 in
theorem rone_sl_err_n (t : ByteArray) (k : Nat) (w : World) (ht : t.size ≤ 4000000) (_hk : k ≤ t.size) (h0 : ¬ k = 0) (s0 : seesB t k [60, 33, 45, 45] = false) (s1 : seesB t k [60, 33, 91, 67, 68, 65, 84, 65, 91] = false) (s2 : seesB t k [60, 33, 68, 79, 67, 84, 89, 80, 69] = false) (s3 : seesB t k [60, 33] = false) (s4 : seesB t k [60, 63] = false) (s5 : seesB t k [60, 47] = true) (e0 : Nat) (he0 : e0 ≠ 0) (hk2 : k + 2 ≤ t.size) (hq : qualF t (k + 2) = .error e0) :
    Calls Tryz.prog 17 #[.string t, .int .i64 (k : Int)] w fun e w' => e = .returned (.tuple #[tokV 0 0 ⟨#[]⟩ (.slice none 0 0) ⟨#[]⟩ 0, .int .i64 0, .int .i64 (e0 : Int)]) ∧ Below w.heap.size w w' := by
  obtain ⟨k2, hkk⟩ : ∃ k2, k + 2 = k2 := ⟨_, rfl⟩
  rw [hkk] at hq
  have e2 : (k : Int) + 2 = (k2 : Int) := by omega
  have kb : (k : Int) ≤ 4000000 := by omega
  have WR := Lib.hid (fun W => (refWritten_any t k2 W ht (by omega)).mono fun _ _ z => wr_err hq z)
  have b0 : ((e0 : Int) == 0) = false := by rw [beq_eq_false_iff_ne]; omega
  have b1 : ((e0 : Int) != 0) = true := by rw [bne_iff_ne]; omega
  have b2 : ¬ (e0 : Int) = 0 := by omega
  clear hq he0 hkk hk2
  have z0 : ((k : Int) == 0) = false := by rw [beq_eq_false_iff_ne]; omega
  have z1 : ¬ (k : Int) = 0 := by omega
  clear h0
  have T0 := Lib.hid (fun W => refStands_at t ⟨#[60, 33, 45, 45]⟩ (k : Int) k [60, 33, 45, 45] W rfl rfl (by omega) (by omega) (by decide) (by decide))
  rw [s0] at T0
  clear s0
  have T1 := Lib.hid (fun W => refStands_at t ⟨#[60, 33, 91, 67, 68, 65, 84, 65, 91]⟩ (k : Int) k [60, 33, 91, 67, 68, 65, 84, 65, 91] W rfl rfl (by omega) (by omega) (by decide) (by decide))
  rw [s1] at T1
  clear s1
  have T2 := Lib.hid (fun W => refStands_at t ⟨#[60, 33, 68, 79, 67, 84, 89, 80, 69]⟩ (k : Int) k [60, 33, 68, 79, 67, 84, 89, 80, 69] W rfl rfl (by omega) (by omega) (by decide) (by decide))
  rw [s2] at T2
  clear s2
  have T3 := Lib.hid (fun W => refStands_at t ⟨#[60, 33]⟩ (k : Int) k [60, 33] W rfl rfl (by omega) (by omega) (by decide) (by decide))
  rw [s3] at T3
  clear s3
  have T4 := Lib.hid (fun W => refStands_at t ⟨#[60, 63]⟩ (k : Int) k [60, 63] W rfl rfl (by omega) (by omega) (by decide) (by decide))
  rw [s4] at T4
  clear s4
  have T5 := Lib.hid (fun W => refStands_at t ⟨#[60, 47]⟩ (k : Int) k [60, 47] W rfl rfl (by omega) (by omega) (by decide) (by decide))
  rw [s5] at T5
  clear s5
  clear ht _hk
  go_enter Tryz.func17, Tryz.ntmps17
  go_wp2_with (fail)
  obtain ⟨W1, hW1⟩ : ∃ W, w.alloc TOKR = W := ⟨_, rfl⟩
  rw [hW1]
  have S1 := Lib.hid (RSt.first hW1)
  clear hW1
  go_wp2_with (fail)
  refine (T0.out _).mono ?_
  rintro e w' ⟨rfl, rfl⟩
  go_wp2_with (fail)
  refine (T1.out _).mono ?_
  rintro e w' ⟨rfl, rfl⟩
  go_wp2_with (fail)
  refine (T2.out _).mono ?_
  rintro e w' ⟨rfl, rfl⟩
  go_wp2_with (fail)
  refine (T3.out _).mono ?_
  rintro e w' ⟨rfl, rfl⟩
  go_wp2_with (fail)
  refine (T4.out _).mono ?_
  rintro e w' ⟨rfl, rfl⟩
  go_wp2_with (fail)
  refine (T5.out _).mono ?_
  rintro e w' ⟨rfl, rfl⟩
  go_wp2_with (fail)
  refine (WR.out _).mono ?_
  rintro e w2 ⟨rfl, hb⟩
  have S2 := Lib.hid (S1.out.grew hb)
  clear hb
  obtain ⟨⟨c0, c1, c2, c3, c4, c5⟩, ⟨f0, f1, f2, f3, f4, f5⟩⟩ := six_cells S2.out.out
  go_wp2_with (fail)
  change bodyPost _ _ _ _ _ (setTok w2 w.heap.size 0 0 ⟨#[]⟩ (.slice none 0 0) ⟨#[]⟩ 0)
  obtain ⟨w9, hw9⟩ : ∃ W, setTok w2 w.heap.size 0 0 ⟨#[]⟩ (.slice none 0 0) ⟨#[]⟩ 0 = W := ⟨_, rfl⟩
  obtain ⟨r9, m9⟩ := setTok_row 0 0 ⟨#[]⟩ (.slice none 0 0) ⟨#[]⟩ 0 S2.out.out
  rw [hw9] at r9 m9 ⊢
  obtain ⟨⟨d0, d1, d2, d3, d4, d5⟩, _⟩ := six_cells r9
  refine bodyPost_ret (v := .tuple #[tokV 0 0 ⟨#[]⟩ (.slice none 0 0) ⟨#[]⟩ 0, .int .i64 0, .int .i64 (e0 : Int)]) ?_ rfl ?_
  · simp [results, Tryz.results17, go_sem, d0, d1, d2, d3, d4, d5]
  · exact ⟨rfl, S2.out.laid m9⟩
set_option maxRecDepth 100000 in
set_option maxHeartbeats 1000000 in
theorem rone_sl_bad_n (t : ByteArray) (k : Nat) (w : World) (ht : t.size ≤ 4000000) (_hk : k ≤ t.size) (h0 : ¬ k = 0) (s0 : seesB t k [60, 33, 45, 45] = false) (s1 : seesB t k [60, 33, 91, 67, 68, 65, 84, 65, 91] = false) (s2 : seesB t k [60, 33, 68, 79, 67, 84, 89, 80, 69] = false) (s3 : seesB t k [60, 33] = false) (s4 : seesB t k [60, 63] = false) (s5 : seesB t k [60, 47] = true) (hk2 : k + 2 ≤ t.size) (n : ByteArray) (i : Nat) (hq : qualF t (k + 2) = .ok (n, i)) (hi : i ≤ t.size) (hse : seesB t (whiteTo t i) [62] = false) :
    Calls Tryz.prog 17 #[.string t, .int .i64 (k : Int)] w fun e w' => e = .returned (.tuple #[tokV 0 0 ⟨#[]⟩ (.slice none 0 0) ⟨#[]⟩ 0, .int .i64 0, .int .i64 23]) ∧ Below w.heap.size w w' := by
  obtain ⟨k2, hkk⟩ : ∃ k2, k + 2 = k2 := ⟨_, rfl⟩
  rw [hkk] at hq
  have e2 : (k : Int) + 2 = (k2 : Int) := by omega
  have kb : (k : Int) ≤ 4000000 := by omega
  have WR := Lib.hid (fun W => (refWritten_any t k2 W ht (by omega)).mono fun _ _ z => wr_ok hq z)
  have WH := Lib.hid (fun W => refWhite_any t i W (by omega) (by omega))
  have hwle := white_le hi
  obtain ⟨k1, hk1⟩ : ∃ k1, whiteTo t i = k1 := ⟨_, rfl⟩
  rw [hk1] at WH hwle hse
  have SE := Lib.hid (fun W => refStands_at t ⟨#[62]⟩ (k1 : Int) k1 [62] W rfl rfl (by omega) (by omega) (by decide) (by decide))
  rw [hse] at SE
  have kc : (k1 : Int) ≤ 4000000 := by omega
  clear hq hkk hk2 hse hk1 hi hwle
  have z0 : ((k : Int) == 0) = false := by rw [beq_eq_false_iff_ne]; omega
  have z1 : ¬ (k : Int) = 0 := by omega
  clear h0
  have T0 := Lib.hid (fun W => refStands_at t ⟨#[60, 33, 45, 45]⟩ (k : Int) k [60, 33, 45, 45] W rfl rfl (by omega) (by omega) (by decide) (by decide))
  rw [s0] at T0
  clear s0
  have T1 := Lib.hid (fun W => refStands_at t ⟨#[60, 33, 91, 67, 68, 65, 84, 65, 91]⟩ (k : Int) k [60, 33, 91, 67, 68, 65, 84, 65, 91] W rfl rfl (by omega) (by omega) (by decide) (by decide))
  rw [s1] at T1
  clear s1
  have T2 := Lib.hid (fun W => refStands_at t ⟨#[60, 33, 68, 79, 67, 84, 89, 80, 69]⟩ (k : Int) k [60, 33, 68, 79, 67, 84, 89, 80, 69] W rfl rfl (by omega) (by omega) (by decide) (by decide))
  rw [s2] at T2
  clear s2
  have T3 := Lib.hid (fun W => refStands_at t ⟨#[60, 33]⟩ (k : Int) k [60, 33] W rfl rfl (by omega) (by omega) (by decide) (by decide))
  rw [s3] at T3
  clear s3
  have T4 := Lib.hid (fun W => refStands_at t ⟨#[60, 63]⟩ (k : Int) k [60, 63] W rfl rfl (by omega) (by omega) (by decide) (by decide))
  rw [s4] at T4
  clear s4
  have T5 := Lib.hid (fun W => refStands_at t ⟨#[60, 47]⟩ (k : Int) k [60, 47] W rfl rfl (by omega) (by omega) (by decide) (by decide))
  rw [s5] at T5
  clear s5
  clear ht _hk
  go_enter Tryz.func17, Tryz.ntmps17
  go_wp2_with (fail)
  obtain ⟨W1, hW1⟩ : ∃ W, w.alloc TOKR = W := ⟨_, rfl⟩
  rw [hW1]
  have S1 := Lib.hid (RSt.first hW1)
  clear hW1
  go_wp2_with (fail)
  refine (T0.out _).mono ?_
  rintro e w' ⟨rfl, rfl⟩
  go_wp2_with (fail)
  refine (T1.out _).mono ?_
  rintro e w' ⟨rfl, rfl⟩
  go_wp2_with (fail)
  refine (T2.out _).mono ?_
  rintro e w' ⟨rfl, rfl⟩
  go_wp2_with (fail)
  refine (T3.out _).mono ?_
  rintro e w' ⟨rfl, rfl⟩
  go_wp2_with (fail)
  refine (T4.out _).mono ?_
  rintro e w' ⟨rfl, rfl⟩
  go_wp2_with (fail)
  refine (T5.out _).mono ?_
  rintro e w' ⟨rfl, rfl⟩
  go_wp2_with (fail)
  refine (WR.out _).mono ?_
  rintro e w2 ⟨rfl, hb⟩
  have S2 := Lib.hid (S1.out.grew hb)
  clear hb
  go_wp2_with (fail)
  refine (WH.out _).mono ?_
  rintro e w' ⟨rfl, rfl⟩
  go_wp2_with (fail)
  refine (SE.out _).mono ?_
  rintro e w' ⟨rfl, rfl⟩
  obtain ⟨⟨c0, c1, c2, c3, c4, c5⟩, ⟨f0, f1, f2, f3, f4, f5⟩⟩ := six_cells S2.out.out
  go_wp2_with (fail)
  change bodyPost _ _ _ _ _ (setTok w2 w.heap.size 0 0 ⟨#[]⟩ (.slice none 0 0) ⟨#[]⟩ 0)
  obtain ⟨w9, hw9⟩ : ∃ W, setTok w2 w.heap.size 0 0 ⟨#[]⟩ (.slice none 0 0) ⟨#[]⟩ 0 = W := ⟨_, rfl⟩
  obtain ⟨r9, m9⟩ := setTok_row 0 0 ⟨#[]⟩ (.slice none 0 0) ⟨#[]⟩ 0 S2.out.out
  rw [hw9] at r9 m9 ⊢
  obtain ⟨⟨d0, d1, d2, d3, d4, d5⟩, _⟩ := six_cells r9
  refine bodyPost_ret (v := .tuple #[tokV 0 0 ⟨#[]⟩ (.slice none 0 0) ⟨#[]⟩ 0, .int .i64 0, .int .i64 23]) ?_ rfl ?_
  · simp [results, Tryz.results17, go_sem, d0, d1, d2, d3, d4, d5]
  · exact ⟨rfl, S2.out.laid m9⟩
set_option maxRecDepth 100000 in
set_option maxHeartbeats 1000000 in
theorem rone_sl_good_n (t : ByteArray) (k : Nat) (w : World) (ht : t.size ≤ 4000000) (_hk : k ≤ t.size) (h0 : ¬ k = 0) (s0 : seesB t k [60, 33, 45, 45] = false) (s1 : seesB t k [60, 33, 91, 67, 68, 65, 84, 65, 91] = false) (s2 : seesB t k [60, 33, 68, 79, 67, 84, 89, 80, 69] = false) (s3 : seesB t k [60, 33] = false) (s4 : seesB t k [60, 63] = false) (s5 : seesB t k [60, 47] = true) (hk2 : k + 2 ≤ t.size) (n : ByteArray) (i : Nat) (hq : qualF t (k + 2) = .ok (n, i)) (hi : i ≤ t.size) (hse : seesB t (whiteTo t i) [62] = true) :
    Calls Tryz.prog 17 #[.string t, .int .i64 (k : Int)] w fun e w' => e = .returned (.tuple #[tokV 3 0 n (.slice none 0 0) ⟨#[]⟩ 0, .int .i64 ((whiteTo t i : Int) + 1), .int .i64 0]) ∧ Below w.heap.size w w' := by
  obtain ⟨k2, hkk⟩ : ∃ k2, k + 2 = k2 := ⟨_, rfl⟩
  rw [hkk] at hq
  have e2 : (k : Int) + 2 = (k2 : Int) := by omega
  have kb : (k : Int) ≤ 4000000 := by omega
  have WR := Lib.hid (fun W => (refWritten_any t k2 W ht (by omega)).mono fun _ _ z => wr_ok hq z)
  have WH := Lib.hid (fun W => refWhite_any t i W (by omega) (by omega))
  have hwle := white_le hi
  obtain ⟨k1, hk1⟩ : ∃ k1, whiteTo t i = k1 := ⟨_, rfl⟩
  rw [hk1] at WH hwle hse ⊢
  have SE := Lib.hid (fun W => refStands_at t ⟨#[62]⟩ (k1 : Int) k1 [62] W rfl rfl (by omega) (by omega) (by decide) (by decide))
  rw [hse] at SE
  have kc : (k1 : Int) ≤ 4000000 := by omega
  clear hq hkk hk2 hse hk1 hi hwle
  have z0 : ((k : Int) == 0) = false := by rw [beq_eq_false_iff_ne]; omega
  have z1 : ¬ (k : Int) = 0 := by omega
  clear h0
  have T0 := Lib.hid (fun W => refStands_at t ⟨#[60, 33, 45, 45]⟩ (k : Int) k [60, 33, 45, 45] W rfl rfl (by omega) (by omega) (by decide) (by decide))
  rw [s0] at T0
  clear s0
  have T1 := Lib.hid (fun W => refStands_at t ⟨#[60, 33, 91, 67, 68, 65, 84, 65, 91]⟩ (k : Int) k [60, 33, 91, 67, 68, 65, 84, 65, 91] W rfl rfl (by omega) (by omega) (by decide) (by decide))
  rw [s1] at T1
  clear s1
  have T2 := Lib.hid (fun W => refStands_at t ⟨#[60, 33, 68, 79, 67, 84, 89, 80, 69]⟩ (k : Int) k [60, 33, 68, 79, 67, 84, 89, 80, 69] W rfl rfl (by omega) (by omega) (by decide) (by decide))
  rw [s2] at T2
  clear s2
  have T3 := Lib.hid (fun W => refStands_at t ⟨#[60, 33]⟩ (k : Int) k [60, 33] W rfl rfl (by omega) (by omega) (by decide) (by decide))
  rw [s3] at T3
  clear s3
  have T4 := Lib.hid (fun W => refStands_at t ⟨#[60, 63]⟩ (k : Int) k [60, 63] W rfl rfl (by omega) (by omega) (by decide) (by decide))
  rw [s4] at T4
  clear s4
  have T5 := Lib.hid (fun W => refStands_at t ⟨#[60, 47]⟩ (k : Int) k [60, 47] W rfl rfl (by omega) (by omega) (by decide) (by decide))
  rw [s5] at T5
  clear s5
  clear ht _hk
  go_enter Tryz.func17, Tryz.ntmps17
  go_wp2_with (fail)
  obtain ⟨W1, hW1⟩ : ∃ W, w.alloc TOKR = W := ⟨_, rfl⟩
  rw [hW1]
  have S1 := Lib.hid (RSt.first hW1)
  clear hW1
  go_wp2_with (fail)
  refine (T0.out _).mono ?_
  rintro e w' ⟨rfl, rfl⟩
  go_wp2_with (fail)
  refine (T1.out _).mono ?_
  rintro e w' ⟨rfl, rfl⟩
  go_wp2_with (fail)
  refine (T2.out _).mono ?_
  rintro e w' ⟨rfl, rfl⟩
  go_wp2_with (fail)
  refine (T3.out _).mono ?_
  rintro e w' ⟨rfl, rfl⟩
  go_wp2_with (fail)
  refine (T4.out _).mono ?_
  rintro e w' ⟨rfl, rfl⟩
  go_wp2_with (fail)
  refine (T5.out _).mono ?_
  rintro e w' ⟨rfl, rfl⟩
  go_wp2_with (fail)
  refine (WR.out _).mono ?_
  rintro e w2 ⟨rfl, hb⟩
  have S2 := Lib.hid (S1.out.grew hb)
  clear hb
  go_wp2_with (fail)
  refine (WH.out _).mono ?_
  rintro e w' ⟨rfl, rfl⟩
  go_wp2_with (fail)
  refine (SE.out _).mono ?_
  rintro e w' ⟨rfl, rfl⟩
  obtain ⟨⟨c0, c1, c2, c3, c4, c5⟩, ⟨f0, f1, f2, f3, f4, f5⟩⟩ := six_cells S2.out.out
  go_wp2_with (fail)
  change bodyPost _ _ _ _ _ (setTok w2 w.heap.size 3 0 n (.slice none 0 0) ⟨#[]⟩ 0)
  obtain ⟨w9, hw9⟩ : ∃ W, setTok w2 w.heap.size 3 0 n (.slice none 0 0) ⟨#[]⟩ 0 = W := ⟨_, rfl⟩
  obtain ⟨r9, m9⟩ := setTok_row 3 0 n (.slice none 0 0) ⟨#[]⟩ 0 S2.out.out
  rw [hw9] at r9 m9 ⊢
  obtain ⟨⟨d0, d1, d2, d3, d4, d5⟩, _⟩ := six_cells r9
  refine bodyPost_ret (v := .tuple #[tokV 3 0 n (.slice none 0 0) ⟨#[]⟩ 0, .int .i64 ((k1 : Int) + 1), .int .i64 0]) ?_ rfl ?_
  · simp [results, Tryz.results17, go_sem, d0, d1, d2, d3, d4, d5]
  · exact ⟨rfl, S2.out.laid m9⟩
end Go.Proofs.YtidimpepfkdcmaaGreatDoor
namespace Go.Proofs.YtidimpepfkdcmaaGreatDoor
open Go.RowKit

set_option maxRecDepth 100000 in
set_option maxHeartbeats 1000000 in
theorem rone_sl_err_z (t : ByteArray) (k : Nat) (w : World) (ht : t.size ≤ 4000000) (_hk : k ≤ t.size) (h0 : k = 0) (hX : seesB t 0 [60, 63, 120, 109, 108] = false) (s0 : seesB t k [60, 33, 45, 45] = false) (s1 : seesB t k [60, 33, 91, 67, 68, 65, 84, 65, 91] = false) (s2 : seesB t k [60, 33, 68, 79, 67, 84, 89, 80, 69] = false) (s3 : seesB t k [60, 33] = false) (s4 : seesB t k [60, 63] = false) (s5 : seesB t k [60, 47] = true) (e0 : Nat) (he0 : e0 ≠ 0) (hk2 : k + 2 ≤ t.size) (hq : qualF t (k + 2) = .error e0) :
    Calls Tryz.prog 17 #[.string t, .int .i64 (k : Int)] w fun e w' => e = .returned (.tuple #[tokV 0 0 ⟨#[]⟩ (.slice none 0 0) ⟨#[]⟩ 0, .int .i64 0, .int .i64 (e0 : Int)]) ∧ Below w.heap.size w w' := by
  obtain ⟨k2, hkk⟩ : ∃ k2, k + 2 = k2 := ⟨_, rfl⟩
  rw [hkk] at hq
  have e2 : (k : Int) + 2 = (k2 : Int) := by omega
  have kb : (k : Int) ≤ 4000000 := by omega
  have WR := Lib.hid (fun W => (refWritten_any t k2 W ht (by omega)).mono fun _ _ z => wr_err hq z)
  have b0 : ((e0 : Int) == 0) = false := by rw [beq_eq_false_iff_ne]; omega
  have b1 : ((e0 : Int) != 0) = true := by rw [bne_iff_ne]; omega
  have b2 : ¬ (e0 : Int) = 0 := by omega
  clear hq he0 hkk hk2
  have z0 : ((k : Int) == 0) = true := by rw [beq_iff_eq]; omega
  have SX := Lib.hid (fun W => refStands_at t ⟨#[60, 63, 120, 109, 108]⟩ 0 0 [60, 63, 120, 109, 108] W rfl rfl (by omega) (by omega) (by decide) (by decide))
  rw [hX] at SX
  clear hX
  clear h0
  have T0 := Lib.hid (fun W => refStands_at t ⟨#[60, 33, 45, 45]⟩ (k : Int) k [60, 33, 45, 45] W rfl rfl (by omega) (by omega) (by decide) (by decide))
  rw [s0] at T0
  clear s0
  have T1 := Lib.hid (fun W => refStands_at t ⟨#[60, 33, 91, 67, 68, 65, 84, 65, 91]⟩ (k : Int) k [60, 33, 91, 67, 68, 65, 84, 65, 91] W rfl rfl (by omega) (by omega) (by decide) (by decide))
  rw [s1] at T1
  clear s1
  have T2 := Lib.hid (fun W => refStands_at t ⟨#[60, 33, 68, 79, 67, 84, 89, 80, 69]⟩ (k : Int) k [60, 33, 68, 79, 67, 84, 89, 80, 69] W rfl rfl (by omega) (by omega) (by decide) (by decide))
  rw [s2] at T2
  clear s2
  have T3 := Lib.hid (fun W => refStands_at t ⟨#[60, 33]⟩ (k : Int) k [60, 33] W rfl rfl (by omega) (by omega) (by decide) (by decide))
  rw [s3] at T3
  clear s3
  have T4 := Lib.hid (fun W => refStands_at t ⟨#[60, 63]⟩ (k : Int) k [60, 63] W rfl rfl (by omega) (by omega) (by decide) (by decide))
  rw [s4] at T4
  clear s4
  have T5 := Lib.hid (fun W => refStands_at t ⟨#[60, 47]⟩ (k : Int) k [60, 47] W rfl rfl (by omega) (by omega) (by decide) (by decide))
  rw [s5] at T5
  clear s5
  clear ht _hk
  go_enter Tryz.func17, Tryz.ntmps17
  go_wp2_with (fail)
  obtain ⟨W1, hW1⟩ : ∃ W, w.alloc TOKR = W := ⟨_, rfl⟩
  rw [hW1]
  have S1 := Lib.hid (RSt.first hW1)
  clear hW1
  go_wp2_with (fail)
  refine (SX.out _).mono ?_
  rintro e w' ⟨rfl, rfl⟩
  go_wp2_with (fail)
  refine (T0.out _).mono ?_
  rintro e w' ⟨rfl, rfl⟩
  go_wp2_with (fail)
  refine (T1.out _).mono ?_
  rintro e w' ⟨rfl, rfl⟩
  go_wp2_with (fail)
  refine (T2.out _).mono ?_
  rintro e w' ⟨rfl, rfl⟩
  go_wp2_with (fail)
  refine (T3.out _).mono ?_
  rintro e w' ⟨rfl, rfl⟩
  go_wp2_with (fail)
  refine (T4.out _).mono ?_
  rintro e w' ⟨rfl, rfl⟩
  go_wp2_with (fail)
  refine (T5.out _).mono ?_
  rintro e w' ⟨rfl, rfl⟩
  go_wp2_with (fail)
  refine (WR.out _).mono ?_
  rintro e w2 ⟨rfl, hb⟩
  have S2 := Lib.hid (S1.out.grew hb)
  clear hb
  obtain ⟨⟨c0, c1, c2, c3, c4, c5⟩, ⟨f0, f1, f2, f3, f4, f5⟩⟩ := six_cells S2.out.out
  go_wp2_with (fail)
  change bodyPost _ _ _ _ _ (setTok w2 w.heap.size 0 0 ⟨#[]⟩ (.slice none 0 0) ⟨#[]⟩ 0)
  obtain ⟨w9, hw9⟩ : ∃ W, setTok w2 w.heap.size 0 0 ⟨#[]⟩ (.slice none 0 0) ⟨#[]⟩ 0 = W := ⟨_, rfl⟩
  obtain ⟨r9, m9⟩ := setTok_row 0 0 ⟨#[]⟩ (.slice none 0 0) ⟨#[]⟩ 0 S2.out.out
  rw [hw9] at r9 m9 ⊢
  obtain ⟨⟨d0, d1, d2, d3, d4, d5⟩, _⟩ := six_cells r9
  refine bodyPost_ret (v := .tuple #[tokV 0 0 ⟨#[]⟩ (.slice none 0 0) ⟨#[]⟩ 0, .int .i64 0, .int .i64 (e0 : Int)]) ?_ rfl ?_
  · simp [results, Tryz.results17, go_sem, d0, d1, d2, d3, d4, d5]
  · exact ⟨rfl, S2.out.laid m9⟩
set_option maxRecDepth 100000 in
set_option maxHeartbeats 1000000 in
theorem rone_sl_bad_z (t : ByteArray) (k : Nat) (w : World) (ht : t.size ≤ 4000000) (_hk : k ≤ t.size) (h0 : k = 0) (hX : seesB t 0 [60, 63, 120, 109, 108] = false) (s0 : seesB t k [60, 33, 45, 45] = false) (s1 : seesB t k [60, 33, 91, 67, 68, 65, 84, 65, 91] = false) (s2 : seesB t k [60, 33, 68, 79, 67, 84, 89, 80, 69] = false) (s3 : seesB t k [60, 33] = false) (s4 : seesB t k [60, 63] = false) (s5 : seesB t k [60, 47] = true) (hk2 : k + 2 ≤ t.size) (n : ByteArray) (i : Nat) (hq : qualF t (k + 2) = .ok (n, i)) (hi : i ≤ t.size) (hse : seesB t (whiteTo t i) [62] = false) :
    Calls Tryz.prog 17 #[.string t, .int .i64 (k : Int)] w fun e w' => e = .returned (.tuple #[tokV 0 0 ⟨#[]⟩ (.slice none 0 0) ⟨#[]⟩ 0, .int .i64 0, .int .i64 23]) ∧ Below w.heap.size w w' := by
  obtain ⟨k2, hkk⟩ : ∃ k2, k + 2 = k2 := ⟨_, rfl⟩
  rw [hkk] at hq
  have e2 : (k : Int) + 2 = (k2 : Int) := by omega
  have kb : (k : Int) ≤ 4000000 := by omega
  have WR := Lib.hid (fun W => (refWritten_any t k2 W ht (by omega)).mono fun _ _ z => wr_ok hq z)
  have WH := Lib.hid (fun W => refWhite_any t i W (by omega) (by omega))
  have hwle := white_le hi
  obtain ⟨k1, hk1⟩ : ∃ k1, whiteTo t i = k1 := ⟨_, rfl⟩
  rw [hk1] at WH hwle hse
  have SE := Lib.hid (fun W => refStands_at t ⟨#[62]⟩ (k1 : Int) k1 [62] W rfl rfl (by omega) (by omega) (by decide) (by decide))
  rw [hse] at SE
  have kc : (k1 : Int) ≤ 4000000 := by omega
  clear hq hkk hk2 hse hk1 hi hwle
  have z0 : ((k : Int) == 0) = true := by rw [beq_iff_eq]; omega
  have SX := Lib.hid (fun W => refStands_at t ⟨#[60, 63, 120, 109, 108]⟩ 0 0 [60, 63, 120, 109, 108] W rfl rfl (by omega) (by omega) (by decide) (by decide))
  rw [hX] at SX
  clear hX
  clear h0
  have T0 := Lib.hid (fun W => refStands_at t ⟨#[60, 33, 45, 45]⟩ (k : Int) k [60, 33, 45, 45] W rfl rfl (by omega) (by omega) (by decide) (by decide))
  rw [s0] at T0
  clear s0
  have T1 := Lib.hid (fun W => refStands_at t ⟨#[60, 33, 91, 67, 68, 65, 84, 65, 91]⟩ (k : Int) k [60, 33, 91, 67, 68, 65, 84, 65, 91] W rfl rfl (by omega) (by omega) (by decide) (by decide))
  rw [s1] at T1
  clear s1
  have T2 := Lib.hid (fun W => refStands_at t ⟨#[60, 33, 68, 79, 67, 84, 89, 80, 69]⟩ (k : Int) k [60, 33, 68, 79, 67, 84, 89, 80, 69] W rfl rfl (by omega) (by omega) (by decide) (by decide))
  rw [s2] at T2
  clear s2
  have T3 := Lib.hid (fun W => refStands_at t ⟨#[60, 33]⟩ (k : Int) k [60, 33] W rfl rfl (by omega) (by omega) (by decide) (by decide))
  rw [s3] at T3
  clear s3
  have T4 := Lib.hid (fun W => refStands_at t ⟨#[60, 63]⟩ (k : Int) k [60, 63] W rfl rfl (by omega) (by omega) (by decide) (by decide))
  rw [s4] at T4
  clear s4
  have T5 := Lib.hid (fun W => refStands_at t ⟨#[60, 47]⟩ (k : Int) k [60, 47] W rfl rfl (by omega) (by omega) (by decide) (by decide))
  rw [s5] at T5
  clear s5
  clear ht _hk
  go_enter Tryz.func17, Tryz.ntmps17
  go_wp2_with (fail)
  obtain ⟨W1, hW1⟩ : ∃ W, w.alloc TOKR = W := ⟨_, rfl⟩
  rw [hW1]
  have S1 := Lib.hid (RSt.first hW1)
  clear hW1
  go_wp2_with (fail)
  refine (SX.out _).mono ?_
  rintro e w' ⟨rfl, rfl⟩
  go_wp2_with (fail)
  refine (T0.out _).mono ?_
  rintro e w' ⟨rfl, rfl⟩
  go_wp2_with (fail)
  refine (T1.out _).mono ?_
  rintro e w' ⟨rfl, rfl⟩
  go_wp2_with (fail)
  refine (T2.out _).mono ?_
  rintro e w' ⟨rfl, rfl⟩
  go_wp2_with (fail)
  refine (T3.out _).mono ?_
  rintro e w' ⟨rfl, rfl⟩
  go_wp2_with (fail)
  refine (T4.out _).mono ?_
  rintro e w' ⟨rfl, rfl⟩
  go_wp2_with (fail)
  refine (T5.out _).mono ?_
  rintro e w' ⟨rfl, rfl⟩
  go_wp2_with (fail)
  refine (WR.out _).mono ?_
  rintro e w2 ⟨rfl, hb⟩
  have S2 := Lib.hid (S1.out.grew hb)
  clear hb
  go_wp2_with (fail)
  refine (WH.out _).mono ?_
  rintro e w' ⟨rfl, rfl⟩
  go_wp2_with (fail)
  refine (SE.out _).mono ?_
  rintro e w' ⟨rfl, rfl⟩
  obtain ⟨⟨c0, c1, c2, c3, c4, c5⟩, ⟨f0, f1, f2, f3, f4, f5⟩⟩ := six_cells S2.out.out
  go_wp2_with (fail)
  change bodyPost _ _ _ _ _ (setTok w2 w.heap.size 0 0 ⟨#[]⟩ (.slice none 0 0) ⟨#[]⟩ 0)
  obtain ⟨w9, hw9⟩ : ∃ W, setTok w2 w.heap.size 0 0 ⟨#[]⟩ (.slice none 0 0) ⟨#[]⟩ 0 = W := ⟨_, rfl⟩
  obtain ⟨r9, m9⟩ := setTok_row 0 0 ⟨#[]⟩ (.slice none 0 0) ⟨#[]⟩ 0 S2.out.out
  rw [hw9] at r9 m9 ⊢
  obtain ⟨⟨d0, d1, d2, d3, d4, d5⟩, _⟩ := six_cells r9
  refine bodyPost_ret (v := .tuple #[tokV 0 0 ⟨#[]⟩ (.slice none 0 0) ⟨#[]⟩ 0, .int .i64 0, .int .i64 23]) ?_ rfl ?_
  · simp [results, Tryz.results17, go_sem, d0, d1, d2, d3, d4, d5]
  · exact ⟨rfl, S2.out.laid m9⟩
set_option maxRecDepth 100000 in
set_option maxHeartbeats 1000000 in
theorem rone_sl_good_z (t : ByteArray) (k : Nat) (w : World) (ht : t.size ≤ 4000000) (_hk : k ≤ t.size) (h0 : k = 0) (hX : seesB t 0 [60, 63, 120, 109, 108] = false) (s0 : seesB t k [60, 33, 45, 45] = false) (s1 : seesB t k [60, 33, 91, 67, 68, 65, 84, 65, 91] = false) (s2 : seesB t k [60, 33, 68, 79, 67, 84, 89, 80, 69] = false) (s3 : seesB t k [60, 33] = false) (s4 : seesB t k [60, 63] = false) (s5 : seesB t k [60, 47] = true) (hk2 : k + 2 ≤ t.size) (n : ByteArray) (i : Nat) (hq : qualF t (k + 2) = .ok (n, i)) (hi : i ≤ t.size) (hse : seesB t (whiteTo t i) [62] = true) :
    Calls Tryz.prog 17 #[.string t, .int .i64 (k : Int)] w fun e w' => e = .returned (.tuple #[tokV 3 0 n (.slice none 0 0) ⟨#[]⟩ 0, .int .i64 ((whiteTo t i : Int) + 1), .int .i64 0]) ∧ Below w.heap.size w w' := by
  obtain ⟨k2, hkk⟩ : ∃ k2, k + 2 = k2 := ⟨_, rfl⟩
  rw [hkk] at hq
  have e2 : (k : Int) + 2 = (k2 : Int) := by omega
  have kb : (k : Int) ≤ 4000000 := by omega
  have WR := Lib.hid (fun W => (refWritten_any t k2 W ht (by omega)).mono fun _ _ z => wr_ok hq z)
  have WH := Lib.hid (fun W => refWhite_any t i W (by omega) (by omega))
  have hwle := white_le hi
  obtain ⟨k1, hk1⟩ : ∃ k1, whiteTo t i = k1 := ⟨_, rfl⟩
  rw [hk1] at WH hwle hse ⊢
  have SE := Lib.hid (fun W => refStands_at t ⟨#[62]⟩ (k1 : Int) k1 [62] W rfl rfl (by omega) (by omega) (by decide) (by decide))
  rw [hse] at SE
  have kc : (k1 : Int) ≤ 4000000 := by omega
  clear hq hkk hk2 hse hk1 hi hwle
  have z0 : ((k : Int) == 0) = true := by rw [beq_iff_eq]; omega
  have SX := Lib.hid (fun W => refStands_at t ⟨#[60, 63, 120, 109, 108]⟩ 0 0 [60, 63, 120, 109, 108] W rfl rfl (by omega) (by omega) (by decide) (by decide))
  rw [hX] at SX
  clear hX
  clear h0
  have T0 := Lib.hid (fun W => refStands_at t ⟨#[60, 33, 45, 45]⟩ (k : Int) k [60, 33, 45, 45] W rfl rfl (by omega) (by omega) (by decide) (by decide))
  rw [s0] at T0
  clear s0
  have T1 := Lib.hid (fun W => refStands_at t ⟨#[60, 33, 91, 67, 68, 65, 84, 65, 91]⟩ (k : Int) k [60, 33, 91, 67, 68, 65, 84, 65, 91] W rfl rfl (by omega) (by omega) (by decide) (by decide))
  rw [s1] at T1
  clear s1
  have T2 := Lib.hid (fun W => refStands_at t ⟨#[60, 33, 68, 79, 67, 84, 89, 80, 69]⟩ (k : Int) k [60, 33, 68, 79, 67, 84, 89, 80, 69] W rfl rfl (by omega) (by omega) (by decide) (by decide))
  rw [s2] at T2
  clear s2
  have T3 := Lib.hid (fun W => refStands_at t ⟨#[60, 33]⟩ (k : Int) k [60, 33] W rfl rfl (by omega) (by omega) (by decide) (by decide))
  rw [s3] at T3
  clear s3
  have T4 := Lib.hid (fun W => refStands_at t ⟨#[60, 63]⟩ (k : Int) k [60, 63] W rfl rfl (by omega) (by omega) (by decide) (by decide))
  rw [s4] at T4
  clear s4
  have T5 := Lib.hid (fun W => refStands_at t ⟨#[60, 47]⟩ (k : Int) k [60, 47] W rfl rfl (by omega) (by omega) (by decide) (by decide))
  rw [s5] at T5
  clear s5
  clear ht _hk
  go_enter Tryz.func17, Tryz.ntmps17
  go_wp2_with (fail)
  obtain ⟨W1, hW1⟩ : ∃ W, w.alloc TOKR = W := ⟨_, rfl⟩
  rw [hW1]
  have S1 := Lib.hid (RSt.first hW1)
  clear hW1
  go_wp2_with (fail)
  refine (SX.out _).mono ?_
  rintro e w' ⟨rfl, rfl⟩
  go_wp2_with (fail)
  refine (T0.out _).mono ?_
  rintro e w' ⟨rfl, rfl⟩
  go_wp2_with (fail)
  refine (T1.out _).mono ?_
  rintro e w' ⟨rfl, rfl⟩
  go_wp2_with (fail)
  refine (T2.out _).mono ?_
  rintro e w' ⟨rfl, rfl⟩
  go_wp2_with (fail)
  refine (T3.out _).mono ?_
  rintro e w' ⟨rfl, rfl⟩
  go_wp2_with (fail)
  refine (T4.out _).mono ?_
  rintro e w' ⟨rfl, rfl⟩
  go_wp2_with (fail)
  refine (T5.out _).mono ?_
  rintro e w' ⟨rfl, rfl⟩
  go_wp2_with (fail)
  refine (WR.out _).mono ?_
  rintro e w2 ⟨rfl, hb⟩
  have S2 := Lib.hid (S1.out.grew hb)
  clear hb
  go_wp2_with (fail)
  refine (WH.out _).mono ?_
  rintro e w' ⟨rfl, rfl⟩
  go_wp2_with (fail)
  refine (SE.out _).mono ?_
  rintro e w' ⟨rfl, rfl⟩
  obtain ⟨⟨c0, c1, c2, c3, c4, c5⟩, ⟨f0, f1, f2, f3, f4, f5⟩⟩ := six_cells S2.out.out
  go_wp2_with (fail)
  change bodyPost _ _ _ _ _ (setTok w2 w.heap.size 3 0 n (.slice none 0 0) ⟨#[]⟩ 0)
  obtain ⟨w9, hw9⟩ : ∃ W, setTok w2 w.heap.size 3 0 n (.slice none 0 0) ⟨#[]⟩ 0 = W := ⟨_, rfl⟩
  obtain ⟨r9, m9⟩ := setTok_row 3 0 n (.slice none 0 0) ⟨#[]⟩ 0 S2.out.out
  rw [hw9] at r9 m9 ⊢
  obtain ⟨⟨d0, d1, d2, d3, d4, d5⟩, _⟩ := six_cells r9
  refine bodyPost_ret (v := .tuple #[tokV 3 0 n (.slice none 0 0) ⟨#[]⟩ 0, .int .i64 ((k1 : Int) + 1), .int .i64 0]) ?_ rfl ?_
  · simp [results, Tryz.results17, go_sem, d0, d1, d2, d3, d4, d5]
  · exact ⟨rfl, S2.out.laid m9⟩
end Go.Proofs.YtidimpepfkdcmaaGreatDoor
