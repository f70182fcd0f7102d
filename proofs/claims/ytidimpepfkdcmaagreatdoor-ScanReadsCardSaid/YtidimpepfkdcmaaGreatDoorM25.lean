/- Proved here: what the document's One answers at each way but the characters. | Proved here: what the document's One answers at each way but the characters. | Proved here: what the document's One answers at each way but the characters. | Proved here: what the document's One answers at each way but the characters. -/
import Derived.Test.YtidimpepfkdcmaaGreatDoorM24
namespace Go.Proofs.YtidimpepfkdcmaaGreatDoor
open Go.RowKit

set_option maxRecDepth 100000 in
set_option maxHeartbeats 1000000 in
theorem rone_com_open_n (t : ByteArray) (k : Nat) (w : World) (ht : t.size ≤ 4000000) (_hk : k ≤ t.size) (h0 : ¬ k = 0) (s0 : seesB t k [60, 33, 45, 45] = true) (hf : findF t (k + 4) [45, 45] = none) :
    Calls Tryz.prog 17 #[.string t, .int .i64 (k : Int)] w fun e w' => e = .returned (.tuple #[tokV 0 0 ⟨#[]⟩ (.slice none 0 0) ⟨#[]⟩ 0, .int .i64 0, .int .i64 23]) ∧ Below w.heap.size w w' := by
  obtain ⟨k4, hk4⟩ : ∃ k4, k + 4 = k4 := ⟨_, rfl⟩
  rw [hk4] at hf
  have e4 : (k : Int) + 4 = (k4 : Int) := by omega
  have kb : (k : Int) ≤ 4000000 := by omega
  have FI := Lib.hid (fun W => refFind_at t ⟨#[45, 45]⟩ (k4 : Int) k4 [45, 45] W rfl rfl (by omega) (by omega) (by decide) (by decide))
  have hfz : findZ t k4 [45, 45] = -1 := by unfold findZ; rw [hf]
  rw [hfz] at FI
  clear hf hfz hk4
  have z0 : ((k : Int) == 0) = false := by rw [beq_eq_false_iff_ne]; omega
  have z1 : ¬ (k : Int) = 0 := by omega
  clear h0
  have T0 := Lib.hid (fun W => refStands_at t ⟨#[60, 33, 45, 45]⟩ (k : Int) k [60, 33, 45, 45] W rfl rfl (by omega) (by omega) (by decide) (by decide))
  rw [s0] at T0
  clear s0
  clear ht _hk
  go_enter Tryz.func17, Tryz.ntmps17
  go_wp2_with (fail)
  obtain ⟨W1, hW1⟩ : ∃ W, w.alloc TOKR = W := ⟨_, rfl⟩
  rw [hW1]
  have S1 := Lib.hid (RSt.first hW1)
  clear hW1
  go_wp2_with (fail)
  refine (T0.out _).mono ?_
  rintro e w' ⟨rfl, rfl⟩
  go_wp2_with (fail)
  refine (FI.out _).mono ?_
  rintro e w' ⟨rfl, rfl⟩
  obtain ⟨⟨c0, c1, c2, c3, c4, c5⟩, ⟨f0, f1, f2, f3, f4, f5⟩⟩ := six_cells S1.out.out
  go_wp2_with (fail)
  change bodyPost _ _ _ _ _ (setTok W1 w.heap.size 0 0 ⟨#[]⟩ (.slice none 0 0) ⟨#[]⟩ 0)
  obtain ⟨w9, hw9⟩ : ∃ W, setTok W1 w.heap.size 0 0 ⟨#[]⟩ (.slice none 0 0) ⟨#[]⟩ 0 = W := ⟨_, rfl⟩
  obtain ⟨r9, m9⟩ := setTok_row 0 0 ⟨#[]⟩ (.slice none 0 0) ⟨#[]⟩ 0 S1.out.out
  rw [hw9] at r9 m9 ⊢
  obtain ⟨⟨d0, d1, d2, d3, d4, d5⟩, _⟩ := six_cells r9
  refine bodyPost_ret (v := .tuple #[tokV 0 0 ⟨#[]⟩ (.slice none 0 0) ⟨#[]⟩ 0, .int .i64 0, .int .i64 23]) ?_ rfl ?_
  · simp [results, Tryz.results17, go_sem, d0, d1, d2, d3, d4, d5]
  · exact ⟨rfl, S1.out.laid m9⟩
set_option maxRecDepth 100000 in
set_option maxHeartbeats 1000000 in
theorem rone_com_bad_n (t : ByteArray) (k : Nat) (w : World) (ht : t.size ≤ 4000000) (_hk : k ≤ t.size) (h0 : ¬ k = 0) (s0 : seesB t k [60, 33, 45, 45] = true) (m : Nat) (hf : findF t (k + 4) [45, 45] = some m) (hm : k + 4 ≤ m ∧ m ≤ t.size) (hse : seesB t m [45, 45, 62] = false) :
    Calls Tryz.prog 17 #[.string t, .int .i64 (k : Int)] w fun e w' => e = .returned (.tuple #[tokV 0 0 ⟨#[]⟩ (.slice none 0 0) ⟨#[]⟩ 0, .int .i64 0, .int .i64 23]) ∧ Below w.heap.size w w' := by
  obtain ⟨k4, hk4⟩ : ∃ k4, k + 4 = k4 := ⟨_, rfl⟩
  rw [hk4] at hf
  have e4 : (k : Int) + 4 = (k4 : Int) := by omega
  have kb : (k : Int) ≤ 4000000 := by omega
  have FI := Lib.hid (fun W => refFind_at t ⟨#[45, 45]⟩ (k4 : Int) k4 [45, 45] W rfl rfl (by omega) (by omega) (by decide) (by decide))
  have hfz : findZ t k4 [45, 45] = (m : Int) := by unfold findZ; rw [hf]
  rw [hfz] at FI
  have i2 : (m : Int) ≤ 4000000 := by omega
  have i3 : (k4 : Int) ≤ (m : Int) := by omega
  have i4 : (m : Int) ≤ (t.size : Int) := by omega
  have i5 : ¬ (m : Int) < 0 := by omega
  have i6 : (0 : Int) ≤ (k4 : Int) := by omega
  clear hf hfz
  have SE := Lib.hid (fun W => refStands_at t ⟨#[45, 45, 62]⟩ (m : Int) m [45, 45, 62] W rfl rfl (by omega) (by omega) (by decide) (by decide))
  rw [hse] at SE
  clear hse hk4 hm
  have z0 : ((k : Int) == 0) = false := by rw [beq_eq_false_iff_ne]; omega
  have z1 : ¬ (k : Int) = 0 := by omega
  clear h0
  have T0 := Lib.hid (fun W => refStands_at t ⟨#[60, 33, 45, 45]⟩ (k : Int) k [60, 33, 45, 45] W rfl rfl (by omega) (by omega) (by decide) (by decide))
  rw [s0] at T0
  clear s0
  clear ht _hk
  go_enter Tryz.func17, Tryz.ntmps17
  go_wp2_with (fail)
  obtain ⟨W1, hW1⟩ : ∃ W, w.alloc TOKR = W := ⟨_, rfl⟩
  rw [hW1]
  have S1 := Lib.hid (RSt.first hW1)
  clear hW1
  go_wp2_with (fail)
  refine (T0.out _).mono ?_
  rintro e w' ⟨rfl, rfl⟩
  go_wp2_with (fail)
  refine (FI.out _).mono ?_
  rintro e w' ⟨rfl, rfl⟩
  go_wp2_with (fail)
  refine (SE.out _).mono ?_
  rintro e w' ⟨rfl, rfl⟩
  obtain ⟨⟨c0, c1, c2, c3, c4, c5⟩, ⟨f0, f1, f2, f3, f4, f5⟩⟩ := six_cells S1.out.out
  go_wp2_with (fail)
  change bodyPost _ _ _ _ _ (setTok W1 w.heap.size 0 0 ⟨#[]⟩ (.slice none 0 0) ⟨#[]⟩ 0)
  obtain ⟨w9, hw9⟩ : ∃ W, setTok W1 w.heap.size 0 0 ⟨#[]⟩ (.slice none 0 0) ⟨#[]⟩ 0 = W := ⟨_, rfl⟩
  obtain ⟨r9, m9⟩ := setTok_row 0 0 ⟨#[]⟩ (.slice none 0 0) ⟨#[]⟩ 0 S1.out.out
  rw [hw9] at r9 m9 ⊢
  obtain ⟨⟨d0, d1, d2, d3, d4, d5⟩, _⟩ := six_cells r9
  refine bodyPost_ret (v := .tuple #[tokV 0 0 ⟨#[]⟩ (.slice none 0 0) ⟨#[]⟩ 0, .int .i64 0, .int .i64 23]) ?_ rfl ?_
  · simp [results, Tryz.results17, go_sem, d0, d1, d2, d3, d4, d5]
  · exact ⟨rfl, S1.out.laid m9⟩
set_option maxRecDepth 100000 in
set_option maxHeartbeats 1000000 in
theorem rone_com_good_n (t : ByteArray) (k : Nat) (w : World) (ht : t.size ≤ 4000000) (_hk : k ≤ t.size) (h0 : ¬ k = 0) (s0 : seesB t k [60, 33, 45, 45] = true) (m : Nat) (hf : findF t (k + 4) [45, 45] = some m) (hm : k + 4 ≤ m ∧ m ≤ t.size) (hse : seesB t m [45, 45, 62] = true) :
    Calls Tryz.prog 17 #[.string t, .int .i64 (k : Int)] w fun e w' => e = .returned (.tuple #[tokV 7 0 ⟨#[]⟩ (.slice none 0 0) (t.extract (k + 4) m) 0, .int .i64 ((m : Int) + 3), .int .i64 0]) ∧ Below w.heap.size w w' := by
  obtain ⟨k4, hk4⟩ : ∃ k4, k + 4 = k4 := ⟨_, rfl⟩
  rw [hk4] at hf ⊢
  have e4 : (k : Int) + 4 = (k4 : Int) := by omega
  have kb : (k : Int) ≤ 4000000 := by omega
  have FI := Lib.hid (fun W => refFind_at t ⟨#[45, 45]⟩ (k4 : Int) k4 [45, 45] W rfl rfl (by omega) (by omega) (by decide) (by decide))
  have hfz : findZ t k4 [45, 45] = (m : Int) := by unfold findZ; rw [hf]
  rw [hfz] at FI
  have i2 : (m : Int) ≤ 4000000 := by omega
  have i3 : (k4 : Int) ≤ (m : Int) := by omega
  have i4 : (m : Int) ≤ (t.size : Int) := by omega
  have i5 : ¬ (m : Int) < 0 := by omega
  have i6 : (0 : Int) ≤ (k4 : Int) := by omega
  clear hf hfz
  have SE := Lib.hid (fun W => refStands_at t ⟨#[45, 45, 62]⟩ (m : Int) m [45, 45, 62] W rfl rfl (by omega) (by omega) (by decide) (by decide))
  rw [hse] at SE
  clear hse hk4 hm
  have z0 : ((k : Int) == 0) = false := by rw [beq_eq_false_iff_ne]; omega
  have z1 : ¬ (k : Int) = 0 := by omega
  clear h0
  have T0 := Lib.hid (fun W => refStands_at t ⟨#[60, 33, 45, 45]⟩ (k : Int) k [60, 33, 45, 45] W rfl rfl (by omega) (by omega) (by decide) (by decide))
  rw [s0] at T0
  clear s0
  clear ht _hk
  go_enter Tryz.func17, Tryz.ntmps17
  go_wp2_with (fail)
  obtain ⟨W1, hW1⟩ : ∃ W, w.alloc TOKR = W := ⟨_, rfl⟩
  rw [hW1]
  have S1 := Lib.hid (RSt.first hW1)
  clear hW1
  go_wp2_with (fail)
  refine (T0.out _).mono ?_
  rintro e w' ⟨rfl, rfl⟩
  go_wp2_with (fail)
  refine (FI.out _).mono ?_
  rintro e w' ⟨rfl, rfl⟩
  go_wp2_with (fail)
  refine (SE.out _).mono ?_
  rintro e w' ⟨rfl, rfl⟩
  obtain ⟨⟨c0, c1, c2, c3, c4, c5⟩, ⟨f0, f1, f2, f3, f4, f5⟩⟩ := six_cells S1.out.out
  go_wp2_with (fail)
  change bodyPost _ _ _ _ _ (setTok W1 w.heap.size 7 0 ⟨#[]⟩ (.slice none 0 0) (t.extract k4 m) 0)
  obtain ⟨w9, hw9⟩ : ∃ W, setTok W1 w.heap.size 7 0 ⟨#[]⟩ (.slice none 0 0) (t.extract k4 m) 0 = W := ⟨_, rfl⟩
  obtain ⟨r9, m9⟩ := setTok_row 7 0 ⟨#[]⟩ (.slice none 0 0) (t.extract k4 m) 0 S1.out.out
  rw [hw9] at r9 m9 ⊢
  obtain ⟨⟨d0, d1, d2, d3, d4, d5⟩, _⟩ := six_cells r9
  refine bodyPost_ret (v := .tuple #[tokV 7 0 ⟨#[]⟩ (.slice none 0 0) (t.extract k4 m) 0, .int .i64 ((m : Int) + 3), .int .i64 0]) ?_ rfl ?_
  · simp [results, Tryz.results17, go_sem, d0, d1, d2, d3, d4, d5]
  · exact ⟨rfl, S1.out.laid m9⟩
end Go.Proofs.YtidimpepfkdcmaaGreatDoor
namespace Go.Proofs.YtidimpepfkdcmaaGreatDoor
open Go.RowKit

set_option maxRecDepth 100000 in
set_option maxHeartbeats 1000000 in
theorem rone_com_open_z (t : ByteArray) (k : Nat) (w : World) (ht : t.size ≤ 4000000) (_hk : k ≤ t.size) (h0 : k = 0) (hX : seesB t 0 [60, 63, 120, 109, 108] = false) (s0 : seesB t k [60, 33, 45, 45] = true) (hf : findF t (k + 4) [45, 45] = none) :
    Calls Tryz.prog 17 #[.string t, .int .i64 (k : Int)] w fun e w' => e = .returned (.tuple #[tokV 0 0 ⟨#[]⟩ (.slice none 0 0) ⟨#[]⟩ 0, .int .i64 0, .int .i64 23]) ∧ Below w.heap.size w w' := by
  obtain ⟨k4, hk4⟩ : ∃ k4, k + 4 = k4 := ⟨_, rfl⟩
  rw [hk4] at hf
  have e4 : (k : Int) + 4 = (k4 : Int) := by omega
  have kb : (k : Int) ≤ 4000000 := by omega
  have FI := Lib.hid (fun W => refFind_at t ⟨#[45, 45]⟩ (k4 : Int) k4 [45, 45] W rfl rfl (by omega) (by omega) (by decide) (by decide))
  have hfz : findZ t k4 [45, 45] = -1 := by unfold findZ; rw [hf]
  rw [hfz] at FI
  clear hf hfz hk4
  have z0 : ((k : Int) == 0) = true := by rw [beq_iff_eq]; omega
  have SX := Lib.hid (fun W => refStands_at t ⟨#[60, 63, 120, 109, 108]⟩ 0 0 [60, 63, 120, 109, 108] W rfl rfl (by omega) (by omega) (by decide) (by decide))
  rw [hX] at SX
  clear hX
  clear h0
  have T0 := Lib.hid (fun W => refStands_at t ⟨#[60, 33, 45, 45]⟩ (k : Int) k [60, 33, 45, 45] W rfl rfl (by omega) (by omega) (by decide) (by decide))
  rw [s0] at T0
  clear s0
  clear ht _hk
  go_enter Tryz.func17, Tryz.ntmps17
  go_wp2_with (fail)
  obtain ⟨W1, hW1⟩ : ∃ W, w.alloc TOKR = W := ⟨_, rfl⟩
  rw [hW1]
  have S1 := Lib.hid (RSt.first hW1)
  clear hW1
  go_wp2_with (fail)
  refine (SX.out _).mono ?_
  rintro e w' ⟨rfl, rfl⟩
  go_wp2_with (fail)
  refine (T0.out _).mono ?_
  rintro e w' ⟨rfl, rfl⟩
  go_wp2_with (fail)
  refine (FI.out _).mono ?_
  rintro e w' ⟨rfl, rfl⟩
  obtain ⟨⟨c0, c1, c2, c3, c4, c5⟩, ⟨f0, f1, f2, f3, f4, f5⟩⟩ := six_cells S1.out.out
  go_wp2_with (fail)
  change bodyPost _ _ _ _ _ (setTok W1 w.heap.size 0 0 ⟨#[]⟩ (.slice none 0 0) ⟨#[]⟩ 0)
  obtain ⟨w9, hw9⟩ : ∃ W, setTok W1 w.heap.size 0 0 ⟨#[]⟩ (.slice none 0 0) ⟨#[]⟩ 0 = W := ⟨_, rfl⟩
  obtain ⟨r9, m9⟩ := setTok_row 0 0 ⟨#[]⟩ (.slice none 0 0) ⟨#[]⟩ 0 S1.out.out
  rw [hw9] at r9 m9 ⊢
  obtain ⟨⟨d0, d1, d2, d3, d4, d5⟩, _⟩ := six_cells r9
  refine bodyPost_ret (v := .tuple #[tokV 0 0 ⟨#[]⟩ (.slice none 0 0) ⟨#[]⟩ 0, .int .i64 0, .int .i64 23]) ?_ rfl ?_
  · simp [results, Tryz.results17, go_sem, d0, d1, d2, d3, d4, d5]
  · exact ⟨rfl, S1.out.laid m9⟩
set_option maxRecDepth 100000 in
set_option maxHeartbeats 1000000 in
theorem rone_com_bad_z (t : ByteArray) (k : Nat) (w : World) (ht : t.size ≤ 4000000) (_hk : k ≤ t.size) (h0 : k = 0) (hX : seesB t 0 [60, 63, 120, 109, 108] = false) (s0 : seesB t k [60, 33, 45, 45] = true) (m : Nat) (hf : findF t (k + 4) [45, 45] = some m) (hm : k + 4 ≤ m ∧ m ≤ t.size) (hse : seesB t m [45, 45, 62] = false) :
    Calls Tryz.prog 17 #[.string t, .int .i64 (k : Int)] w fun e w' => e = .returned (.tuple #[tokV 0 0 ⟨#[]⟩ (.slice none 0 0) ⟨#[]⟩ 0, .int .i64 0, .int .i64 23]) ∧ Below w.heap.size w w' := by
  obtain ⟨k4, hk4⟩ : ∃ k4, k + 4 = k4 := ⟨_, rfl⟩
  rw [hk4] at hf
  have e4 : (k : Int) + 4 = (k4 : Int) := by omega
  have kb : (k : Int) ≤ 4000000 := by omega
  have FI := Lib.hid (fun W => refFind_at t ⟨#[45, 45]⟩ (k4 : Int) k4 [45, 45] W rfl rfl (by omega) (by omega) (by decide) (by decide))
  have hfz : findZ t k4 [45, 45] = (m : Int) := by unfold findZ; rw [hf]
  rw [hfz] at FI
  have i2 : (m : Int) ≤ 4000000 := by omega
  have i3 : (k4 : Int) ≤ (m : Int) := by omega
  have i4 : (m : Int) ≤ (t.size : Int) := by omega
  have i5 : ¬ (m : Int) < 0 := by omega
  have i6 : (0 : Int) ≤ (k4 : Int) := by omega
  clear hf hfz
  have SE := Lib.hid (fun W => refStands_at t ⟨#[45, 45, 62]⟩ (m : Int) m [45, 45, 62] W rfl rfl (by omega) (by omega) (by decide) (by decide))
  rw [hse] at SE
  clear hse hk4 hm
  have z0 : ((k : Int) == 0) = true := by rw [beq_iff_eq]; omega
  have SX := Lib.hid (fun W => refStands_at t ⟨#[60, 63, 120, 109, 108]⟩ 0 0 [60, 63, 120, 109, 108] W rfl rfl (by omega) (by omega) (by decide) (by decide))
  rw [hX] at SX
  clear hX
  clear h0
  have T0 := Lib.hid (fun W => refStands_at t ⟨#[60, 33, 45, 45]⟩ (k : Int) k [60, 33, 45, 45] W rfl rfl (by omega) (by omega) (by decide) (by decide))
  rw [s0] at T0
  clear s0
  clear ht _hk
  go_enter Tryz.func17, Tryz.ntmps17
  go_wp2_with (fail)
  obtain ⟨W1, hW1⟩ : ∃ W, w.alloc TOKR = W := ⟨_, rfl⟩
  rw [hW1]
  have S1 := Lib.hid (RSt.first hW1)
  clear hW1
  go_wp2_with (fail)
  refine (SX.out _).mono ?_
  rintro e w' ⟨rfl, rfl⟩
  go_wp2_with (fail)
  refine (T0.out _).mono ?_
  rintro e w' ⟨rfl, rfl⟩
  go_wp2_with (fail)
  refine (FI.out _).mono ?_
  rintro e w' ⟨rfl, rfl⟩
  go_wp2_with (fail)
  refine (SE.out _).mono ?_
  rintro e w' ⟨rfl, rfl⟩
  obtain ⟨⟨c0, c1, c2, c3, c4, c5⟩, ⟨f0, f1, f2, f3, f4, f5⟩⟩ := six_cells S1.out.out
  go_wp2_with (fail)
  change bodyPost _ _ _ _ _ (setTok W1 w.heap.size 0 0 ⟨#[]⟩ (.slice none 0 0) ⟨#[]⟩ 0)
  obtain ⟨w9, hw9⟩ : ∃ W, setTok W1 w.heap.size 0 0 ⟨#[]⟩ (.slice none 0 0) ⟨#[]⟩ 0 = W := ⟨_, rfl⟩
  obtain ⟨r9, m9⟩ := setTok_row 0 0 ⟨#[]⟩ (.slice none 0 0) ⟨#[]⟩ 0 S1.out.out
  rw [hw9] at r9 m9 ⊢
  obtain ⟨⟨d0, d1, d2, d3, d4, d5⟩, _⟩ := six_cells r9
  refine bodyPost_ret (v := .tuple #[tokV 0 0 ⟨#[]⟩ (.slice none 0 0) ⟨#[]⟩ 0, .int .i64 0, .int .i64 23]) ?_ rfl ?_
  · simp [results, Tryz.results17, go_sem, d0, d1, d2, d3, d4, d5]
  · exact ⟨rfl, S1.out.laid m9⟩
set_option maxRecDepth 100000 in
set_option maxHeartbeats 1000000 in
theorem rone_com_good_z (t : ByteArray) (k : Nat) (w : World) (ht : t.size ≤ 4000000) (_hk : k ≤ t.size) (h0 : k = 0) (hX : seesB t 0 [60, 63, 120, 109, 108] = false) (s0 : seesB t k [60, 33, 45, 45] = true) (m : Nat) (hf : findF t (k + 4) [45, 45] = some m) (hm : k + 4 ≤ m ∧ m ≤ t.size) (hse : seesB t m [45, 45, 62] = true) :
    Calls Tryz.prog 17 #[.string t, .int .i64 (k : Int)] w fun e w' => e = .returned (.tuple #[tokV 7 0 ⟨#[]⟩ (.slice none 0 0) (t.extract (k + 4) m) 0, .int .i64 ((m : Int) + 3), .int .i64 0]) ∧ Below w.heap.size w w' := by
  obtain ⟨k4, hk4⟩ : ∃ k4, k + 4 = k4 := ⟨_, rfl⟩
  rw [hk4] at hf ⊢
  have e4 : (k : Int) + 4 = (k4 : Int) := by omega
  have kb : (k : Int) ≤ 4000000 := by omega
  have FI := Lib.hid (fun W => refFind_at t ⟨#[45, 45]⟩ (k4 : Int) k4 [45, 45] W rfl rfl (by omega) (by omega) (by decide) (by decide))
  have hfz : findZ t k4 [45, 45] = (m : Int) := by unfold findZ; rw [hf]
  rw [hfz] at FI
  have i2 : (m : Int) ≤ 4000000 := by omega
  have i3 : (k4 : Int) ≤ (m : Int) := by omega
  have i4 : (m : Int) ≤ (t.size : Int) := by omega
  have i5 : ¬ (m : Int) < 0 := by omega
  have i6 : (0 : Int) ≤ (k4 : Int) := by omega
  clear hf hfz
  have SE := Lib.hid (fun W => refStands_at t ⟨#[45, 45, 62]⟩ (m : Int) m [45, 45, 62] W rfl rfl (by omega) (by omega) (by decide) (by decide))
  rw [hse] at SE
  clear hse hk4 hm
  have z0 : ((k : Int) == 0) = true := by rw [beq_iff_eq]; omega
  have SX := Lib.hid (fun W => refStands_at t ⟨#[60, 63, 120, 109, 108]⟩ 0 0 [60, 63, 120, 109, 108] W rfl rfl (by omega) (by omega) (by decide) (by decide))
  rw [hX] at SX
  clear hX
  clear h0
  have T0 := Lib.hid (fun W => refStands_at t ⟨#[60, 33, 45, 45]⟩ (k : Int) k [60, 33, 45, 45] W rfl rfl (by omega) (by omega) (by decide) (by decide))
  rw [s0] at T0
  clear s0
  clear ht _hk
  go_enter Tryz.func17, Tryz.ntmps17
  go_wp2_with (fail)
  obtain ⟨W1, hW1⟩ : ∃ W, w.alloc TOKR = W := ⟨_, rfl⟩
  rw [hW1]
  have S1 := Lib.hid (RSt.first hW1)
  clear hW1
  go_wp2_with (fail)
  refine (SX.out _).mono ?_
  rintro e w' ⟨rfl, rfl⟩
  go_wp2_with (fail)
  refine (T0.out _).mono ?_
  rintro e w' ⟨rfl, rfl⟩
  go_wp2_with (fail)
  refine (FI.out _).mono ?_
  rintro e w' ⟨rfl, rfl⟩
  go_wp2_with (fail)
  refine (SE.out _).mono ?_
  rintro e w' ⟨rfl, rfl⟩
  obtain ⟨⟨c0, c1, c2, c3, c4, c5⟩, ⟨f0, f1, f2, f3, f4, f5⟩⟩ := six_cells S1.out.out
  go_wp2_with (fail)
  change bodyPost _ _ _ _ _ (setTok W1 w.heap.size 7 0 ⟨#[]⟩ (.slice none 0 0) (t.extract k4 m) 0)
  obtain ⟨w9, hw9⟩ : ∃ W, setTok W1 w.heap.size 7 0 ⟨#[]⟩ (.slice none 0 0) (t.extract k4 m) 0 = W := ⟨_, rfl⟩
  obtain ⟨r9, m9⟩ := setTok_row 7 0 ⟨#[]⟩ (.slice none 0 0) (t.extract k4 m) 0 S1.out.out
  rw [hw9] at r9 m9 ⊢
  obtain ⟨⟨d0, d1, d2, d3, d4, d5⟩, _⟩ := six_cells r9
  refine bodyPost_ret (v := .tuple #[tokV 7 0 ⟨#[]⟩ (.slice none 0 0) (t.extract k4 m) 0, .int .i64 ((m : Int) + 3), .int .i64 0]) ?_ rfl ?_
  · simp [results, Tryz.results17, go_sem, d0, d1, d2, d3, d4, d5]
  · exact ⟨rfl, S1.out.laid m9⟩
end Go.Proofs.YtidimpepfkdcmaaGreatDoor
namespace Go.Proofs.YtidimpepfkdcmaaGreatDoor
open Go.RowKit

set_option maxRecDepth 100000 in
set_option maxHeartbeats 1000000 in
theorem rone_dat_open_n (t : ByteArray) (k : Nat) (w : World) (ht : t.size ≤ 4000000) (_hk : k ≤ t.size) (h0 : ¬ k = 0) (s0 : seesB t k [60, 33, 45, 45] = false) (s1 : seesB t k [60, 33, 91, 67, 68, 65, 84, 65, 91] = true) (hf : findF t (k + 9) [93, 93, 62] = none) :
    Calls Tryz.prog 17 #[.string t, .int .i64 (k : Int)] w fun e w' => e = .returned (.tuple #[tokV 0 0 ⟨#[]⟩ (.slice none 0 0) ⟨#[]⟩ 0, .int .i64 0, .int .i64 23]) ∧ Below w.heap.size w w' := by
  obtain ⟨k4, hk4⟩ : ∃ k4, k + 9 = k4 := ⟨_, rfl⟩
  rw [hk4] at hf
  have e4 : (k : Int) + 9 = (k4 : Int) := by omega
  have kb : (k : Int) ≤ 4000000 := by omega
  have FI := Lib.hid (fun W => refFind_at t ⟨#[93, 93, 62]⟩ (k4 : Int) k4 [93, 93, 62] W rfl rfl (by omega) (by omega) (by decide) (by decide))
  have hfz : findZ t k4 [93, 93, 62] = -1 := by unfold findZ; rw [hf]
  rw [hfz] at FI
  clear hf hfz hk4
  have z0 : ((k : Int) == 0) = false := by rw [beq_eq_false_iff_ne]; omega
  have z1 : ¬ (k : Int) = 0 := by omega
  clear h0
  have T0 := Lib.hid (fun W => refStands_at t ⟨#[60, 33, 45, 45]⟩ (k : Int) k [60, 33, 45, 45] W rfl rfl (by omega) (by omega) (by decide) (by decide))
  rw [s0] at T0
  clear s0
  have T1 := Lib.hid (fun W => refStands_at t ⟨#[60, 33, 91, 67, 68, 65, 84, 65, 91]⟩ (k : Int) k [60, 33, 91, 67, 68, 65, 84, 65, 91] W rfl rfl (by omega) (by omega) (by decide) (by decide))
  rw [s1] at T1
  clear s1
  clear ht _hk
  go_enter Tryz.func17, Tryz.ntmps17
  go_wp2_with (fail)
  obtain ⟨W1, hW1⟩ : ∃ W, w.alloc TOKR = W := ⟨_, rfl⟩
  rw [hW1]
  have S1 := Lib.hid (RSt.first hW1)
  clear hW1
  go_wp2_with (fail)
  refine (T0.out _).mono ?_
  rintro e w' ⟨rfl, rfl⟩
  go_wp2_with (fail)
  refine (T1.out _).mono ?_
  rintro e w' ⟨rfl, rfl⟩
  go_wp2_with (fail)
  refine (FI.out _).mono ?_
  rintro e w' ⟨rfl, rfl⟩
  obtain ⟨⟨c0, c1, c2, c3, c4, c5⟩, ⟨f0, f1, f2, f3, f4, f5⟩⟩ := six_cells S1.out.out
  go_wp2_with (fail)
  change bodyPost _ _ _ _ _ (setTok W1 w.heap.size 0 0 ⟨#[]⟩ (.slice none 0 0) ⟨#[]⟩ 0)
  obtain ⟨w9, hw9⟩ : ∃ W, setTok W1 w.heap.size 0 0 ⟨#[]⟩ (.slice none 0 0) ⟨#[]⟩ 0 = W := ⟨_, rfl⟩
  obtain ⟨r9, m9⟩ := setTok_row 0 0 ⟨#[]⟩ (.slice none 0 0) ⟨#[]⟩ 0 S1.out.out
  rw [hw9] at r9 m9 ⊢
  obtain ⟨⟨d0, d1, d2, d3, d4, d5⟩, _⟩ := six_cells r9
  refine bodyPost_ret (v := .tuple #[tokV 0 0 ⟨#[]⟩ (.slice none 0 0) ⟨#[]⟩ 0, .int .i64 0, .int .i64 23]) ?_ rfl ?_
  · simp [results, Tryz.results17, go_sem, d0, d1, d2, d3, d4, d5]
  · exact ⟨rfl, S1.out.laid m9⟩
set_option maxRecDepth 100000 in
set_option maxHeartbeats 1000000 in
theorem rone_dat_good_n (t : ByteArray) (k : Nat) (w : World) (ht : t.size ≤ 4000000) (_hk : k ≤ t.size) (h0 : ¬ k = 0) (s0 : seesB t k [60, 33, 45, 45] = false) (s1 : seesB t k [60, 33, 91, 67, 68, 65, 84, 65, 91] = true) (m : Nat) (hf : findF t (k + 9) [93, 93, 62] = some m) (hm : k + 9 ≤ m ∧ m ≤ t.size) :
    Calls Tryz.prog 17 #[.string t, .int .i64 (k : Int)] w fun e w' => e = .returned (.tuple #[tokV 6 0 ⟨#[]⟩ (.slice none 0 0) (t.extract (k + 9) m) 0, .int .i64 ((m : Int) + 3), .int .i64 0]) ∧ Below w.heap.size w w' := by
  obtain ⟨k4, hk4⟩ : ∃ k4, k + 9 = k4 := ⟨_, rfl⟩
  rw [hk4] at hf ⊢
  have e4 : (k : Int) + 9 = (k4 : Int) := by omega
  have kb : (k : Int) ≤ 4000000 := by omega
  have FI := Lib.hid (fun W => refFind_at t ⟨#[93, 93, 62]⟩ (k4 : Int) k4 [93, 93, 62] W rfl rfl (by omega) (by omega) (by decide) (by decide))
  have hfz : findZ t k4 [93, 93, 62] = (m : Int) := by unfold findZ; rw [hf]
  rw [hfz] at FI
  have i2 : (m : Int) ≤ 4000000 := by omega
  have i3 : (k4 : Int) ≤ (m : Int) := by omega
  have i4 : (m : Int) ≤ (t.size : Int) := by omega
  have i5 : ¬ (m : Int) < 0 := by omega
  have i6 : (0 : Int) ≤ (k4 : Int) := by omega
  clear hf hfz
  clear hk4 hm
  have z0 : ((k : Int) == 0) = false := by rw [beq_eq_false_iff_ne]; omega
  have z1 : ¬ (k : Int) = 0 := by omega
  clear h0
  have T0 := Lib.hid (fun W => refStands_at t ⟨#[60, 33, 45, 45]⟩ (k : Int) k [60, 33, 45, 45] W rfl rfl (by omega) (by omega) (by decide) (by decide))
  rw [s0] at T0
  clear s0
  have T1 := Lib.hid (fun W => refStands_at t ⟨#[60, 33, 91, 67, 68, 65, 84, 65, 91]⟩ (k : Int) k [60, 33, 91, 67, 68, 65, 84, 65, 91] W rfl rfl (by omega) (by omega) (by decide) (by decide))
  rw [s1] at T1
  clear s1
  clear ht _hk
  go_enter Tryz.func17, Tryz.ntmps17
  go_wp2_with (fail)
  obtain ⟨W1, hW1⟩ : ∃ W, w.alloc TOKR = W := ⟨_, rfl⟩
  rw [hW1]
  have S1 := Lib.hid (RSt.first hW1)
  clear hW1
  go_wp2_with (fail)
  refine (T0.out _).mono ?_
  rintro e w' ⟨rfl, rfl⟩
  go_wp2_with (fail)
  refine (T1.out _).mono ?_
  rintro e w' ⟨rfl, rfl⟩
  go_wp2_with (fail)
  refine (FI.out _).mono ?_
  rintro e w' ⟨rfl, rfl⟩
  obtain ⟨⟨c0, c1, c2, c3, c4, c5⟩, ⟨f0, f1, f2, f3, f4, f5⟩⟩ := six_cells S1.out.out
  go_wp2_with (fail)
  change bodyPost _ _ _ _ _ (setTok W1 w.heap.size 6 0 ⟨#[]⟩ (.slice none 0 0) (t.extract k4 m) 0)
  obtain ⟨w9, hw9⟩ : ∃ W, setTok W1 w.heap.size 6 0 ⟨#[]⟩ (.slice none 0 0) (t.extract k4 m) 0 = W := ⟨_, rfl⟩
  obtain ⟨r9, m9⟩ := setTok_row 6 0 ⟨#[]⟩ (.slice none 0 0) (t.extract k4 m) 0 S1.out.out
  rw [hw9] at r9 m9 ⊢
  obtain ⟨⟨d0, d1, d2, d3, d4, d5⟩, _⟩ := six_cells r9
  refine bodyPost_ret (v := .tuple #[tokV 6 0 ⟨#[]⟩ (.slice none 0 0) (t.extract k4 m) 0, .int .i64 ((m : Int) + 3), .int .i64 0]) ?_ rfl ?_
  · simp [results, Tryz.results17, go_sem, d0, d1, d2, d3, d4, d5]
  · exact ⟨rfl, S1.out.laid m9⟩
set_option maxRecDepth 100000 in
set_option maxHeartbeats 1000000 in
theorem rone_doc_n (t : ByteArray) (k : Nat) (w : World) (ht : t.size ≤ 4000000) (_hk : k ≤ t.size) (h0 : ¬ k = 0) (s0 : seesB t k [60, 33, 45, 45] = false) (s1 : seesB t k [60, 33, 91, 67, 68, 65, 84, 65, 91] = false) (s2 : seesB t k [60, 33, 68, 79, 67, 84, 89, 80, 69] = true) :
    Calls Tryz.prog 17 #[.string t, .int .i64 (k : Int)] w fun e w' => e = .returned (.tuple #[tokV 0 0 ⟨#[]⟩ (.slice none 0 0) ⟨#[]⟩ 0, .int .i64 0, .int .i64 25]) ∧ Below w.heap.size w w' := by
  have z0 : ((k : Int) == 0) = false := by rw [beq_eq_false_iff_ne]; omega
  have z1 : ¬ (k : Int) = 0 := by omega
  clear h0
  have T0 := Lib.hid (fun W => refStands_at t ⟨#[60, 33, 45, 45]⟩ (k : Int) k [60, 33, 45, 45] W rfl rfl (by omega) (by omega) (by decide) (by decide))
  rw [s0] at T0
  clear s0
  have T1 := Lib.hid (fun W => refStands_at t ⟨#[60, 33, 91, 67, 68, 65, 84, 65, 91]⟩ (k : Int) k [60, 33, 91, 67, 68, 65, 84, 65, 91] W rfl rfl (by omega) (by omega) (by decide) (by decide))
  rw [s1] at T1
  clear s1
  have T2 := Lib.hid (fun W => refStands_at t ⟨#[60, 33, 68, 79, 67, 84, 89, 80, 69]⟩ (k : Int) k [60, 33, 68, 79, 67, 84, 89, 80, 69] W rfl rfl (by omega) (by omega) (by decide) (by decide))
  rw [s2] at T2
  clear s2
  clear ht _hk
  go_enter Tryz.func17, Tryz.ntmps17
  go_wp2_with (fail)
  obtain ⟨W1, hW1⟩ : ∃ W, w.alloc TOKR = W := ⟨_, rfl⟩
  rw [hW1]
  have S1 := Lib.hid (RSt.first hW1)
  clear hW1
  go_wp2_with (fail)
  refine (T0.out _).mono ?_
  rintro e w' ⟨rfl, rfl⟩
  go_wp2_with (fail)
  refine (T1.out _).mono ?_
  rintro e w' ⟨rfl, rfl⟩
  go_wp2_with (fail)
  refine (T2.out _).mono ?_
  rintro e w' ⟨rfl, rfl⟩
  obtain ⟨⟨c0, c1, c2, c3, c4, c5⟩, ⟨f0, f1, f2, f3, f4, f5⟩⟩ := six_cells S1.out.out
  go_wp2_with (fail)
  change bodyPost _ _ _ _ _ (setTok W1 w.heap.size 0 0 ⟨#[]⟩ (.slice none 0 0) ⟨#[]⟩ 0)
  obtain ⟨w9, hw9⟩ : ∃ W, setTok W1 w.heap.size 0 0 ⟨#[]⟩ (.slice none 0 0) ⟨#[]⟩ 0 = W := ⟨_, rfl⟩
  obtain ⟨r9, m9⟩ := setTok_row 0 0 ⟨#[]⟩ (.slice none 0 0) ⟨#[]⟩ 0 S1.out.out
  rw [hw9] at r9 m9 ⊢
  obtain ⟨⟨d0, d1, d2, d3, d4, d5⟩, _⟩ := six_cells r9
  refine bodyPost_ret (v := .tuple #[tokV 0 0 ⟨#[]⟩ (.slice none 0 0) ⟨#[]⟩ 0, .int .i64 0, .int .i64 25]) ?_ rfl ?_
  · simp [results, Tryz.results17, go_sem, d0, d1, d2, d3, d4, d5]
  · exact ⟨rfl, S1.out.laid m9⟩
set_option maxRecDepth 100000 in
set_option maxHeartbeats 1000000 in
theorem rone_bang_n (t : ByteArray) (k : Nat) (w : World) (ht : t.size ≤ 4000000) (_hk : k ≤ t.size) (h0 : ¬ k = 0) (s0 : seesB t k [60, 33, 45, 45] = false) (s1 : seesB t k [60, 33, 91, 67, 68, 65, 84, 65, 91] = false) (s2 : seesB t k [60, 33, 68, 79, 67, 84, 89, 80, 69] = false) (s3 : seesB t k [60, 33] = true) :
    Calls Tryz.prog 17 #[.string t, .int .i64 (k : Int)] w fun e w' => e = .returned (.tuple #[tokV 0 0 ⟨#[]⟩ (.slice none 0 0) ⟨#[]⟩ 0, .int .i64 0, .int .i64 23]) ∧ Below w.heap.size w w' := by
  have z0 : ((k : Int) == 0) = false := by rw [beq_eq_false_iff_ne]; omega
  have z1 : ¬ (k : Int) = 0 := by omega
  clear h0
  have T0 := Lib.hid (fun W => refStands_at t ⟨#[60, 33, 45, 45]⟩ (k : Int) k [60, 33, 45, 45] W rfl rfl (by omega) (by omega) (by decide) (by decide))
  rw [s0] at T0
  clear s0
  have T1 := Lib.hid (fun W => refStands_at t ⟨#[60, 33, 91, 67, 68, 65, 84, 65, 91]⟩ (k : Int) k [60, 33, 91, 67, 68, 65, 84, 65, 91] W rfl rfl (by omega) (by omega) (by decide) (by decide))
  rw [s1] at T1
  clear s1
  have T2 := Lib.hid (fun W => refStands_at t ⟨#[60, 33, 68, 79, 67, 84, 89, 80, 69]⟩ (k : Int) k [60, 33, 68, 79, 67, 84, 89, 80, 69] W rfl rfl (by omega) (by omega) (by decide) (by decide))
  rw [s2] at T2
  clear s2
  have T3 := Lib.hid (fun W => refStands_at t ⟨#[60, 33]⟩ (k : Int) k [60, 33] W rfl rfl (by omega) (by omega) (by decide) (by decide))
  rw [s3] at T3
  clear s3
  clear ht _hk
  go_enter Tryz.func17, Tryz.ntmps17
  go_wp2_with (fail)
  obtain ⟨W1, hW1⟩ : ∃ W, w.alloc TOKR = W := ⟨_, rfl⟩
  rw [hW1]
  have S1 := Lib.hid (RSt.first hW1)
  clear hW1
  go_wp2_with (fail)
  refine (T0.out _).mono ?_
  rintro e w' ⟨rfl, rfl⟩
  go_wp2_with (fail)
  refine (T1.out _).mono ?_
  rintro e w' ⟨rfl, rfl⟩
  go_wp2_with (fail)
  refine (T2.out _).mono ?_
  rintro e w' ⟨rfl, rfl⟩
  go_wp2_with (fail)
  refine (T3.out _).mono ?_
  rintro e w' ⟨rfl, rfl⟩
  obtain ⟨⟨c0, c1, c2, c3, c4, c5⟩, ⟨f0, f1, f2, f3, f4, f5⟩⟩ := six_cells S1.out.out
  go_wp2_with (fail)
  change bodyPost _ _ _ _ _ (setTok W1 w.heap.size 0 0 ⟨#[]⟩ (.slice none 0 0) ⟨#[]⟩ 0)
  obtain ⟨w9, hw9⟩ : ∃ W, setTok W1 w.heap.size 0 0 ⟨#[]⟩ (.slice none 0 0) ⟨#[]⟩ 0 = W := ⟨_, rfl⟩
  obtain ⟨r9, m9⟩ := setTok_row 0 0 ⟨#[]⟩ (.slice none 0 0) ⟨#[]⟩ 0 S1.out.out
  rw [hw9] at r9 m9 ⊢
  obtain ⟨⟨d0, d1, d2, d3, d4, d5⟩, _⟩ := six_cells r9
  refine bodyPost_ret (v := .tuple #[tokV 0 0 ⟨#[]⟩ (.slice none 0 0) ⟨#[]⟩ 0, .int .i64 0, .int .i64 23]) ?_ rfl ?_
  · simp [results, Tryz.results17, go_sem, d0, d1, d2, d3, d4, d5]
  · exact ⟨rfl, S1.out.laid m9⟩
end Go.Proofs.YtidimpepfkdcmaaGreatDoor
namespace Go.Proofs.YtidimpepfkdcmaaGreatDoor
open Go.RowKit

set_option maxRecDepth 100000 in
set_option maxHeartbeats 1000000 in
theorem rone_dat_open_z (t : ByteArray) (k : Nat) (w : World) (ht : t.size ≤ 4000000) (_hk : k ≤ t.size) (h0 : k = 0) (hX : seesB t 0 [60, 63, 120, 109, 108] = false) (s0 : seesB t k [60, 33, 45, 45] = false) (s1 : seesB t k [60, 33, 91, 67, 68, 65, 84, 65, 91] = true) (hf : findF t (k + 9) [93, 93, 62] = none) :
    Calls Tryz.prog 17 #[.string t, .int .i64 (k : Int)] w fun e w' => e = .returned (.tuple #[tokV 0 0 ⟨#[]⟩ (.slice none 0 0) ⟨#[]⟩ 0, .int .i64 0, .int .i64 23]) ∧ Below w.heap.size w w' := by
  obtain ⟨k4, hk4⟩ : ∃ k4, k + 9 = k4 := ⟨_, rfl⟩
  rw [hk4] at hf
  have e4 : (k : Int) + 9 = (k4 : Int) := by omega
  have kb : (k : Int) ≤ 4000000 := by omega
  have FI := Lib.hid (fun W => refFind_at t ⟨#[93, 93, 62]⟩ (k4 : Int) k4 [93, 93, 62] W rfl rfl (by omega) (by omega) (by decide) (by decide))
  have hfz : findZ t k4 [93, 93, 62] = -1 := by unfold findZ; rw [hf]
  rw [hfz] at FI
  clear hf hfz hk4
  have z0 : ((k : Int) == 0) = true := by rw [beq_iff_eq]; omega
  have SX := Lib.hid (fun W => refStands_at t ⟨#[60, 63, 120, 109, 108]⟩ 0 0 [60, 63, 120, 109, 108] W rfl rfl (by omega) (by omega) (by decide) (by decide))
  rw [hX] at SX
  clear hX
  clear h0
  have T0 := Lib.hid (fun W => refStands_at t ⟨#[60, 33, 45, 45]⟩ (k : Int) k [60, 33, 45, 45] W rfl rfl (by omega) (by omega) (by decide) (by decide))
  rw [s0] at T0
  clear s0
  have T1 := Lib.hid (fun W => refStands_at t ⟨#[60, 33, 91, 67, 68, 65, 84, 65, 91]⟩ (k : Int) k [60, 33, 91, 67, 68, 65, 84, 65, 91] W rfl rfl (by omega) (by omega) (by decide) (by decide))
  rw [s1] at T1
  clear s1
  clear ht _hk
  go_enter Tryz.func17, Tryz.ntmps17
  go_wp2_with (fail)
  obtain ⟨W1, hW1⟩ : ∃ W, w.alloc TOKR = W := ⟨_, rfl⟩
  rw [hW1]
  have S1 := Lib.hid (RSt.first hW1)
  clear hW1
  go_wp2_with (fail)
  refine (SX.out _).mono ?_
  rintro e w' ⟨rfl, rfl⟩
  go_wp2_with (fail)
  refine (T0.out _).mono ?_
  rintro e w' ⟨rfl, rfl⟩
  go_wp2_with (fail)
  refine (T1.out _).mono ?_
  rintro e w' ⟨rfl, rfl⟩
  go_wp2_with (fail)
  refine (FI.out _).mono ?_
  rintro e w' ⟨rfl, rfl⟩
  obtain ⟨⟨c0, c1, c2, c3, c4, c5⟩, ⟨f0, f1, f2, f3, f4, f5⟩⟩ := six_cells S1.out.out
  go_wp2_with (fail)
  change bodyPost _ _ _ _ _ (setTok W1 w.heap.size 0 0 ⟨#[]⟩ (.slice none 0 0) ⟨#[]⟩ 0)
  obtain ⟨w9, hw9⟩ : ∃ W, setTok W1 w.heap.size 0 0 ⟨#[]⟩ (.slice none 0 0) ⟨#[]⟩ 0 = W := ⟨_, rfl⟩
  obtain ⟨r9, m9⟩ := setTok_row 0 0 ⟨#[]⟩ (.slice none 0 0) ⟨#[]⟩ 0 S1.out.out
  rw [hw9] at r9 m9 ⊢
  obtain ⟨⟨d0, d1, d2, d3, d4, d5⟩, _⟩ := six_cells r9
  refine bodyPost_ret (v := .tuple #[tokV 0 0 ⟨#[]⟩ (.slice none 0 0) ⟨#[]⟩ 0, .int .i64 0, .int .i64 23]) ?_ rfl ?_
  · simp [results, Tryz.results17, go_sem, d0, d1, d2, d3, d4, d5]
  · exact ⟨rfl, S1.out.laid m9⟩
set_option maxRecDepth 100000 in
set_option maxHeartbeats 1000000 in
theorem rone_dat_good_z (t : ByteArray) (k : Nat) (w : World) (ht : t.size ≤ 4000000) (_hk : k ≤ t.size) (h0 : k = 0) (hX : seesB t 0 [60, 63, 120, 109, 108] = false) (s0 : seesB t k [60, 33, 45, 45] = false) (s1 : seesB t k [60, 33, 91, 67, 68, 65, 84, 65, 91] = true) (m : Nat) (hf : findF t (k + 9) [93, 93, 62] = some m) (hm : k + 9 ≤ m ∧ m ≤ t.size) :
    Calls Tryz.prog 17 #[.string t, .int .i64 (k : Int)] w fun e w' => e = .returned (.tuple #[tokV 6 0 ⟨#[]⟩ (.slice none 0 0) (t.extract (k + 9) m) 0, .int .i64 ((m : Int) + 3), .int .i64 0]) ∧ Below w.heap.size w w' := by
  obtain ⟨k4, hk4⟩ : ∃ k4, k + 9 = k4 := ⟨_, rfl⟩
  rw [hk4] at hf ⊢
  have e4 : (k : Int) + 9 = (k4 : Int) := by omega
  have kb : (k : Int) ≤ 4000000 := by omega
  have FI := Lib.hid (fun W => refFind_at t ⟨#[93, 93, 62]⟩ (k4 : Int) k4 [93, 93, 62] W rfl rfl (by omega) (by omega) (by decide) (by decide))
  have hfz : findZ t k4 [93, 93, 62] = (m : Int) := by unfold findZ; rw [hf]
  rw [hfz] at FI
  have i2 : (m : Int) ≤ 4000000 := by omega
  have i3 : (k4 : Int) ≤ (m : Int) := by omega
  have i4 : (m : Int) ≤ (t.size : Int) := by omega
  have i5 : ¬ (m : Int) < 0 := by omega
  have i6 : (0 : Int) ≤ (k4 : Int) := by omega
  clear hf hfz
  clear hk4 hm
  have z0 : ((k : Int) == 0) = true := by rw [beq_iff_eq]; omega
  have SX := Lib.hid (fun W => refStands_at t ⟨#[60, 63, 120, 109, 108]⟩ 0 0 [60, 63, 120, 109, 108] W rfl rfl (by omega) (by omega) (by decide) (by decide))
  rw [hX] at SX
  clear hX
  clear h0
  have T0 := Lib.hid (fun W => refStands_at t ⟨#[60, 33, 45, 45]⟩ (k : Int) k [60, 33, 45, 45] W rfl rfl (by omega) (by omega) (by decide) (by decide))
  rw [s0] at T0
  clear s0
  have T1 := Lib.hid (fun W => refStands_at t ⟨#[60, 33, 91, 67, 68, 65, 84, 65, 91]⟩ (k : Int) k [60, 33, 91, 67, 68, 65, 84, 65, 91] W rfl rfl (by omega) (by omega) (by decide) (by decide))
  rw [s1] at T1
  clear s1
  clear ht _hk
  go_enter Tryz.func17, Tryz.ntmps17
  go_wp2_with (fail)
  obtain ⟨W1, hW1⟩ : ∃ W, w.alloc TOKR = W := ⟨_, rfl⟩
  rw [hW1]
  have S1 := Lib.hid (RSt.first hW1)
  clear hW1
  go_wp2_with (fail)
  refine (SX.out _).mono ?_
  rintro e w' ⟨rfl, rfl⟩
  go_wp2_with (fail)
  refine (T0.out _).mono ?_
  rintro e w' ⟨rfl, rfl⟩
  go_wp2_with (fail)
  refine (T1.out _).mono ?_
  rintro e w' ⟨rfl, rfl⟩
  go_wp2_with (fail)
  refine (FI.out _).mono ?_
  rintro e w' ⟨rfl, rfl⟩
  obtain ⟨⟨c0, c1, c2, c3, c4, c5⟩, ⟨f0, f1, f2, f3, f4, f5⟩⟩ := six_cells S1.out.out
  go_wp2_with (fail)
  change bodyPost _ _ _ _ _ (setTok W1 w.heap.size 6 0 ⟨#[]⟩ (.slice none 0 0) (t.extract k4 m) 0)
  obtain ⟨w9, hw9⟩ : ∃ W, setTok W1 w.heap.size 6 0 ⟨#[]⟩ (.slice none 0 0) (t.extract k4 m) 0 = W := ⟨_, rfl⟩
  obtain ⟨r9, m9⟩ := setTok_row 6 0 ⟨#[]⟩ (.slice none 0 0) (t.extract k4 m) 0 S1.out.out
  rw [hw9] at r9 m9 ⊢
  obtain ⟨⟨d0, d1, d2, d3, d4, d5⟩, _⟩ := six_cells r9
  refine bodyPost_ret (v := .tuple #[tokV 6 0 ⟨#[]⟩ (.slice none 0 0) (t.extract k4 m) 0, .int .i64 ((m : Int) + 3), .int .i64 0]) ?_ rfl ?_
  · simp [results, Tryz.results17, go_sem, d0, d1, d2, d3, d4, d5]
  · exact ⟨rfl, S1.out.laid m9⟩
set_option maxRecDepth 100000 in
set_option maxHeartbeats 1000000 in
theorem rone_doc_z (t : ByteArray) (k : Nat) (w : World) (ht : t.size ≤ 4000000) (_hk : k ≤ t.size) (h0 : k = 0) (hX : seesB t 0 [60, 63, 120, 109, 108] = false) (s0 : seesB t k [60, 33, 45, 45] = false) (s1 : seesB t k [60, 33, 91, 67, 68, 65, 84, 65, 91] = false) (s2 : seesB t k [60, 33, 68, 79, 67, 84, 89, 80, 69] = true) :
    Calls Tryz.prog 17 #[.string t, .int .i64 (k : Int)] w fun e w' => e = .returned (.tuple #[tokV 0 0 ⟨#[]⟩ (.slice none 0 0) ⟨#[]⟩ 0, .int .i64 0, .int .i64 25]) ∧ Below w.heap.size w w' := by
  have z0 : ((k : Int) == 0) = true := by rw [beq_iff_eq]; omega
  have SX := Lib.hid (fun W => refStands_at t ⟨#[60, 63, 120, 109, 108]⟩ 0 0 [60, 63, 120, 109, 108] W rfl rfl (by omega) (by omega) (by decide) (by decide))
  rw [hX] at SX
  clear hX
  clear h0
  have T0 := Lib.hid (fun W => refStands_at t ⟨#[60, 33, 45, 45]⟩ (k : Int) k [60, 33, 45, 45] W rfl rfl (by omega) (by omega) (by decide) (by decide))
  rw [s0] at T0
  clear s0
  have T1 := Lib.hid (fun W => refStands_at t ⟨#[60, 33, 91, 67, 68, 65, 84, 65, 91]⟩ (k : Int) k [60, 33, 91, 67, 68, 65, 84, 65, 91] W rfl rfl (by omega) (by omega) (by decide) (by decide))
  rw [s1] at T1
  clear s1
  have T2 := Lib.hid (fun W => refStands_at t ⟨#[60, 33, 68, 79, 67, 84, 89, 80, 69]⟩ (k : Int) k [60, 33, 68, 79, 67, 84, 89, 80, 69] W rfl rfl (by omega) (by omega) (by decide) (by decide))
  rw [s2] at T2
  clear s2
  clear ht _hk
  go_enter Tryz.func17, Tryz.ntmps17
  go_wp2_with (fail)
  obtain ⟨W1, hW1⟩ : ∃ W, w.alloc TOKR = W := ⟨_, rfl⟩
  rw [hW1]
  have S1 := Lib.hid (RSt.first hW1)
  clear hW1
  go_wp2_with (fail)
  refine (SX.out _).mono ?_
  rintro e w' ⟨rfl, rfl⟩
  go_wp2_with (fail)
  refine (T0.out _).mono ?_
  rintro e w' ⟨rfl, rfl⟩
  go_wp2_with (fail)
  refine (T1.out _).mono ?_
  rintro e w' ⟨rfl, rfl⟩
  go_wp2_with (fail)
  refine (T2.out _).mono ?_
  rintro e w' ⟨rfl, rfl⟩
  obtain ⟨⟨c0, c1, c2, c3, c4, c5⟩, ⟨f0, f1, f2, f3, f4, f5⟩⟩ := six_cells S1.out.out
  go_wp2_with (fail)
  change bodyPost _ _ _ _ _ (setTok W1 w.heap.size 0 0 ⟨#[]⟩ (.slice none 0 0) ⟨#[]⟩ 0)
  obtain ⟨w9, hw9⟩ : ∃ W, setTok W1 w.heap.size 0 0 ⟨#[]⟩ (.slice none 0 0) ⟨#[]⟩ 0 = W := ⟨_, rfl⟩
  obtain ⟨r9, m9⟩ := setTok_row 0 0 ⟨#[]⟩ (.slice none 0 0) ⟨#[]⟩ 0 S1.out.out
  rw [hw9] at r9 m9 ⊢
  obtain ⟨⟨d0, d1, d2, d3, d4, d5⟩, _⟩ := six_cells r9
  refine bodyPost_ret (v := .tuple #[tokV 0 0 ⟨#[]⟩ (.slice none 0 0) ⟨#[]⟩ 0, .int .i64 0, .int .i64 25]) ?_ rfl ?_
  · simp [results, Tryz.results17, go_sem, d0, d1, d2, d3, d4, d5]
  · exact ⟨rfl, S1.out.laid m9⟩
set_option maxRecDepth 100000 in
set_option maxHeartbeats 1000000 in
theorem rone_bang_z (t : ByteArray) (k : Nat) (w : World) (ht : t.size ≤ 4000000) (_hk : k ≤ t.size) (h0 : k = 0) (hX : seesB t 0 [60, 63, 120, 109, 108] = false) (s0 : seesB t k [60, 33, 45, 45] = false) (s1 : seesB t k [60, 33, 91, 67, 68, 65, 84, 65, 91] = false) (s2 : seesB t k [60, 33, 68, 79, 67, 84, 89, 80, 69] = false) (s3 : seesB t k [60, 33] = true) :
    Calls Tryz.prog 17 #[.string t, .int .i64 (k : Int)] w fun e w' => e = .returned (.tuple #[tokV 0 0 ⟨#[]⟩ (.slice none 0 0) ⟨#[]⟩ 0, .int .i64 0, .int .i64 23]) ∧ Below w.heap.size w w' := by
  have z0 : ((k : Int) == 0) = true := by rw [beq_iff_eq]; omega
  have SX := Lib.hid (fun W => refStands_at t ⟨#[60, 63, 120, 109, 108]⟩ 0 0 [60, 63, 120, 109, 108] W rfl rfl (by omega) (by omega) (by decide) (by decide))
  rw [hX] at SX
  clear hX
  clear h0
  have T0 := Lib.hid (fun W => refStands_at t ⟨#[60, 33, 45, 45]⟩ (k : Int) k [60, 33, 45, 45] W rfl rfl (by omega) (by omega) (by decide) (by decide))
  rw [s0] at T0
  clear s0
  have T1 := Lib.hid (fun W => refStands_at t ⟨#[60, 33, 91, 67, 68, 65, 84, 65, 91]⟩ (k : Int) k [60, 33, 91, 67, 68, 65, 84, 65, 91] W rfl rfl (by omega) (by omega) (by decide) (by decide))
  rw [s1] at T1
  clear s1
  have T2 := Lib.hid (fun W => refStands_at t ⟨#[60, 33, 68, 79, 67, 84, 89, 80, 69]⟩ (k : Int) k [60, 33, 68, 79, 67, 84, 89, 80, 69] W rfl rfl (by omega) (by omega) (by decide) (by decide))
  rw [s2] at T2
  clear s2
  have T3 := Lib.hid (fun W => refStands_at t ⟨#[60, 33]⟩ (k : Int) k [60, 33] W rfl rfl (by omega) (by omega) (by decide) (by decide))
  rw [s3] at T3
  clear s3
  clear ht _hk
  go_enter Tryz.func17, Tryz.ntmps17
  go_wp2_with (fail)
  obtain ⟨W1, hW1⟩ : ∃ W, w.alloc TOKR = W := ⟨_, rfl⟩
  rw [hW1]
  have S1 := Lib.hid (RSt.first hW1)
  clear hW1
  go_wp2_with (fail)
  refine (SX.out _).mono ?_
  rintro e w' ⟨rfl, rfl⟩
  go_wp2_with (fail)
  refine (T0.out _).mono ?_
  rintro e w' ⟨rfl, rfl⟩
  go_wp2_with (fail)
  refine (T1.out _).mono ?_
  rintro e w' ⟨rfl, rfl⟩
  go_wp2_with (fail)
  refine (T2.out _).mono ?_
  rintro e w' ⟨rfl, rfl⟩
  go_wp2_with (fail)
  refine (T3.out _).mono ?_
  rintro e w' ⟨rfl, rfl⟩
  obtain ⟨⟨c0, c1, c2, c3, c4, c5⟩, ⟨f0, f1, f2, f3, f4, f5⟩⟩ := six_cells S1.out.out
  go_wp2_with (fail)
  change bodyPost _ _ _ _ _ (setTok W1 w.heap.size 0 0 ⟨#[]⟩ (.slice none 0 0) ⟨#[]⟩ 0)
  obtain ⟨w9, hw9⟩ : ∃ W, setTok W1 w.heap.size 0 0 ⟨#[]⟩ (.slice none 0 0) ⟨#[]⟩ 0 = W := ⟨_, rfl⟩
  obtain ⟨r9, m9⟩ := setTok_row 0 0 ⟨#[]⟩ (.slice none 0 0) ⟨#[]⟩ 0 S1.out.out
  rw [hw9] at r9 m9 ⊢
  obtain ⟨⟨d0, d1, d2, d3, d4, d5⟩, _⟩ := six_cells r9
  refine bodyPost_ret (v := .tuple #[tokV 0 0 ⟨#[]⟩ (.slice none 0 0) ⟨#[]⟩ 0, .int .i64 0, .int .i64 23]) ?_ rfl ?_
  · simp [results, Tryz.results17, go_sem, d0, d1, d2, d3, d4, d5]
  · exact ⟨rfl, S1.out.laid m9⟩
end Go.Proofs.YtidimpepfkdcmaaGreatDoor
