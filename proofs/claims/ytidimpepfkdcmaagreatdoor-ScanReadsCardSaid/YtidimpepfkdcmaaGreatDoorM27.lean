/- Proved here: what the document's One answers at each way but the characters. | Proved here: what the document's One answers at each way but the characters. -/
import Derived.Test.YtidimpepfkdcmaaGreatDoorM24
namespace Go.Proofs.YtidimpepfkdcmaaGreatDoor
open Go.RowKit

set_option maxRecDepth 100000 in
set_option maxHeartbeats 1000000 in
theorem rone_qm_n (t : ByteArray) (k : Nat) (w : World) (ht : t.size ≤ 4000000) (_hk : k ≤ t.size) (h0 : ¬ k = 0) (s0 : seesB t k [60, 33, 45, 45] = false) (s1 : seesB t k [60, 33, 91, 67, 68, 65, 84, 65, 91] = false) (s2 : seesB t k [60, 33, 68, 79, 67, 84, 89, 80, 69] = false) (s3 : seesB t k [60, 33] = false) (s4 : seesB t k [60, 63] = true) (r : Except Nat (Tok × Nat)) (HC : ∀ W, Calls Tryz.prog 31 #[.string t, .int .i64 ((k + 2 : Nat) : Int)] W (RtPost W r)) :
    Calls Tryz.prog 17 #[.string t, .int .i64 (k : Int)] w (RtPost w r) := by
  have HH := Lib.hid HC
  clear HC
  obtain ⟨k2, hk2⟩ : ∃ k2, k + 2 = k2 := ⟨_, rfl⟩
  rw [hk2] at HH
  have e2 : (k : Int) + 2 = (k2 : Int) := by omega
  have kb : (k : Int) ≤ 4000000 := by omega
  clear hk2
  have z0 : ((k : Int) == 0) = false := by rw [beq_eq_false_iff_ne]; omega
  have z1 : ¬ (k : Int) = 0 := by omega
  clear h0
  have T0 := Lib.hid (fun W => refStands_at t ⟨#[60, 33, 45, 45]⟩ (k : Int) k [60, 33, 45, 45] W rfl rfl (by omega) (by omega) (by decide) (by decide))
  rw [s0] at T0
  clear s0
  have T1 := Lib.hid (fun W => refStands_at t ⟨#[60, 33, 91, 67, 68, 65, 84, 65, 91]⟩ (k : Int) k [60, 33, 91, 67, 68, 65, 84, 65, 91] W rfl rfl (by omega) (by omega) (by decide) (by decide))
  rw [s1] at T1
  clear s1
  have T2 := Lib.hid (fun W => refStands_at t ⟨#[60, 33, 68, 79, 67, 84, 89, 80, 69]⟩ (k : Int) k [60, 33, 68, 79, 67, 84, 89, 80, 69] W rfl rfl (by omega) (by omega) (by decide) (by decide))
  rw [s2] at T2
  clear s2
  have T3 := Lib.hid (fun W => refStands_at t ⟨#[60, 33]⟩ (k : Int) k [60, 33] W rfl rfl (by omega) (by omega) (by decide) (by decide))
  rw [s3] at T3
  clear s3
  have T4 := Lib.hid (fun W => refStands_at t ⟨#[60, 63]⟩ (k : Int) k [60, 63] W rfl rfl (by omega) (by omega) (by decide) (by decide))
  rw [s4] at T4
  clear s4
  clear ht _hk
  go_enter Tryz.func17, Tryz.ntmps17
  go_wp2_with (fail)
  obtain ⟨W1, hW1⟩ : ∃ W, w.alloc TOKR = W := ⟨_, rfl⟩
  rw [hW1]
  have S1 := Lib.hid (RSt.first hW1)
  clear hW1
  go_wp2_with (fail)
  refine (T0.out _).mono ?_
  rintro e w' ⟨rfl, rfl⟩
  go_wp2_with (fail)
  refine (T1.out _).mono ?_
  rintro e w' ⟨rfl, rfl⟩
  go_wp2_with (fail)
  refine (T2.out _).mono ?_
  rintro e w' ⟨rfl, rfl⟩
  go_wp2_with (fail)
  refine (T3.out _).mono ?_
  rintro e w' ⟨rfl, rfl⟩
  go_wp2_with (fail)
  refine (T4.out _).mono ?_
  rintro e w' ⟨rfl, rfl⟩
  go_wp2_with (fail)
  refine (HH.out _).mono ?_
  intro e w2 z
  cases r with
  | error e0 =>
    obtain ⟨rfl, hb⟩ := z
    have S2 := Lib.hid (S1.out.grew hb)
    clear hb
    obtain ⟨⟨c0, c1, c2, c3, c4, c5⟩, ⟨f0, f1, f2, f3, f4, f5⟩⟩ := six_cells S2.out.out
    go_wp2_with (fail)
    change bodyPost _ _ _ _ _ (setTok w2 w.heap.size 0 0 ⟨#[]⟩ (.slice none 0 0) ⟨#[]⟩ 0)
    obtain ⟨w9, hw9⟩ : ∃ W, setTok w2 w.heap.size 0 0 ⟨#[]⟩ (.slice none 0 0) ⟨#[]⟩ 0 = W := ⟨_, rfl⟩
    obtain ⟨r9, m9⟩ := setTok_row 0 0 ⟨#[]⟩ (.slice none 0 0) ⟨#[]⟩ 0 S2.out.out
    rw [hw9] at r9 m9 ⊢
    obtain ⟨⟨d0, d1, d2, d3, d4, d5⟩, _⟩ := six_cells r9
    refine bodyPost_ret (v := .tuple #[tokV 0 0 ⟨#[]⟩ (.slice none 0 0) ⟨#[]⟩ 0, .int .i64 0, .int .i64 (e0 : Int)]) ?_ rfl ?_
    · simp [results, Tryz.results17, go_sem, d0, d1, d2, d3, d4, d5]
    · exact ⟨rfl, S2.out.laid m9⟩
  | ok q =>
    obtain ⟨x, i⟩ := q
    obtain ⟨⟨pv, rfl, hp⟩, hb⟩ := z
    have S2 := Lib.hid (S1.out.grew hb)
    have HP := Lib.hid hp
    have HB := Lib.hid hb
    obtain ⟨q1, q2, rfl⟩ := hp.form
    clear hb hp
    obtain ⟨⟨c0, c1, c2, c3, c4, c5⟩, ⟨f0, f1, f2, f3, f4, f5⟩⟩ := six_cells S2.out.out
    go_wp2_with (fail)
    change bodyPost _ _ _ _ _ (setTok w2 w.heap.size x.kind 0 x.name (.slice q1 x.pairs.length q2) x.text x.refs)
    obtain ⟨w9, hw9⟩ : ∃ W, setTok w2 w.heap.size x.kind 0 x.name (.slice q1 x.pairs.length q2) x.text x.refs = W := ⟨_, rfl⟩
    obtain ⟨r9, m9⟩ := setTok_row x.kind 0 x.name (.slice q1 x.pairs.length q2) x.text x.refs S2.out.out
    rw [hw9] at r9 m9 ⊢
    obtain ⟨⟨d0, d1, d2, d3, d4, d5⟩, _⟩ := six_cells r9
    refine bodyPost_ret (v := .tuple #[tokV x.kind 0 x.name (.slice q1 x.pairs.length q2) x.text x.refs, .int .i64 (i : Int), .int .i64 0]) ?_ rfl ?_
    · simp [results, Tryz.results17, go_sem, d0, d1, d2, d3, d4, d5]
    · exact ⟨⟨_, rfl, (HP.out.kept m9 (HP.out.ne S1.out.le)).less (Nat.le_of_lt S1.out.le)⟩, S2.out.laid m9⟩
set_option maxRecDepth 100000 in
set_option maxHeartbeats 1000000 in
theorem rone_tag_n (t : ByteArray) (k : Nat) (w : World) (ht : t.size ≤ 4000000) (_hk : k ≤ t.size) (h0 : ¬ k = 0) (s0 : seesB t k [60, 33, 45, 45] = false) (s1 : seesB t k [60, 33, 91, 67, 68, 65, 84, 65, 91] = false) (s2 : seesB t k [60, 33, 68, 79, 67, 84, 89, 80, 69] = false) (s3 : seesB t k [60, 33] = false) (s4 : seesB t k [60, 63] = false) (s5 : seesB t k [60, 47] = false) (hlt : k < t.size) (s9 : seesB t k [60] = true) (r : Except Nat (Tok × Nat)) (HC : ∀ W, Calls Tryz.prog 33 #[.string t, .int .i64 ((k + 1 : Nat) : Int)] W (RtPost W r)) :
    Calls Tryz.prog 17 #[.string t, .int .i64 (k : Int)] w (RtPost w r) := by
  have HH := Lib.hid HC
  clear HC
  obtain ⟨k2, hk2⟩ : ∃ k2, k + 1 = k2 := ⟨_, rfl⟩
  rw [hk2] at HH
  have e2 : (k : Int) + 1 = (k2 : Int) := by omega
  have kb : (k : Int) ≤ 4000000 := by omega
  clear hk2
  have z0 : ((k : Int) == 0) = false := by rw [beq_eq_false_iff_ne]; omega
  have z1 : ¬ (k : Int) = 0 := by omega
  clear h0
  have T0 := Lib.hid (fun W => refStands_at t ⟨#[60, 33, 45, 45]⟩ (k : Int) k [60, 33, 45, 45] W rfl rfl (by omega) (by omega) (by decide) (by decide))
  rw [s0] at T0
  clear s0
  have T1 := Lib.hid (fun W => refStands_at t ⟨#[60, 33, 91, 67, 68, 65, 84, 65, 91]⟩ (k : Int) k [60, 33, 91, 67, 68, 65, 84, 65, 91] W rfl rfl (by omega) (by omega) (by decide) (by decide))
  rw [s1] at T1
  clear s1
  have T2 := Lib.hid (fun W => refStands_at t ⟨#[60, 33, 68, 79, 67, 84, 89, 80, 69]⟩ (k : Int) k [60, 33, 68, 79, 67, 84, 89, 80, 69] W rfl rfl (by omega) (by omega) (by decide) (by decide))
  rw [s2] at T2
  clear s2
  have T3 := Lib.hid (fun W => refStands_at t ⟨#[60, 33]⟩ (k : Int) k [60, 33] W rfl rfl (by omega) (by omega) (by decide) (by decide))
  rw [s3] at T3
  clear s3
  have T4 := Lib.hid (fun W => refStands_at t ⟨#[60, 63]⟩ (k : Int) k [60, 63] W rfl rfl (by omega) (by omega) (by decide) (by decide))
  rw [s4] at T4
  clear s4
  have T5 := Lib.hid (fun W => refStands_at t ⟨#[60, 47]⟩ (k : Int) k [60, 47] W rfl rfl (by omega) (by omega) (by decide) (by decide))
  rw [s5] at T5
  clear s5
  have l1 : (k : Int) < (t.size : Int) := by omega
  have g9 : ((t[k]'hlt).toNat : Int) = 60 := by
    rw [← idx_get t k hlt]
    have e := drop_at t k hlt
    unfold seesB at s9
    rw [e] at s9
    have e2 : (60 : UInt8) = t.get! k := by
      obtain ⟨r, hr⟩ := List.isPrefixOf_iff_prefix.1 s9
      injection hr
    rw [← e2]
    rfl
  clear s9
  clear ht _hk
  go_enter Tryz.func17, Tryz.ntmps17
  go_wp2_with (fail)
  obtain ⟨W1, hW1⟩ : ∃ W, w.alloc TOKR = W := ⟨_, rfl⟩
  rw [hW1]
  have S1 := Lib.hid (RSt.first hW1)
  clear hW1
  go_wp2_with (fail)
  refine (T0.out _).mono ?_
  rintro e w' ⟨rfl, rfl⟩
  go_wp2_with (fail)
  refine (T1.out _).mono ?_
  rintro e w' ⟨rfl, rfl⟩
  go_wp2_with (fail)
  refine (T2.out _).mono ?_
  rintro e w' ⟨rfl, rfl⟩
  go_wp2_with (fail)
  refine (T3.out _).mono ?_
  rintro e w' ⟨rfl, rfl⟩
  go_wp2_with (fail)
  refine (T4.out _).mono ?_
  rintro e w' ⟨rfl, rfl⟩
  go_wp2_with (fail)
  refine (T5.out _).mono ?_
  rintro e w' ⟨rfl, rfl⟩
  go_wp2_with (fail)
  refine (HH.out _).mono ?_
  intro e w2 z
  cases r with
  | error e0 =>
    obtain ⟨rfl, hb⟩ := z
    have S2 := Lib.hid (S1.out.grew hb)
    clear hb
    obtain ⟨⟨c0, c1, c2, c3, c4, c5⟩, ⟨f0, f1, f2, f3, f4, f5⟩⟩ := six_cells S2.out.out
    go_wp2_with (fail)
    change bodyPost _ _ _ _ _ (setTok w2 w.heap.size 0 0 ⟨#[]⟩ (.slice none 0 0) ⟨#[]⟩ 0)
    obtain ⟨w9, hw9⟩ : ∃ W, setTok w2 w.heap.size 0 0 ⟨#[]⟩ (.slice none 0 0) ⟨#[]⟩ 0 = W := ⟨_, rfl⟩
    obtain ⟨r9, m9⟩ := setTok_row 0 0 ⟨#[]⟩ (.slice none 0 0) ⟨#[]⟩ 0 S2.out.out
    rw [hw9] at r9 m9 ⊢
    obtain ⟨⟨d0, d1, d2, d3, d4, d5⟩, _⟩ := six_cells r9
    refine bodyPost_ret (v := .tuple #[tokV 0 0 ⟨#[]⟩ (.slice none 0 0) ⟨#[]⟩ 0, .int .i64 0, .int .i64 (e0 : Int)]) ?_ rfl ?_
    · simp [results, Tryz.results17, go_sem, d0, d1, d2, d3, d4, d5]
    · exact ⟨rfl, S2.out.laid m9⟩
  | ok q =>
    obtain ⟨x, i⟩ := q
    obtain ⟨⟨pv, rfl, hp⟩, hb⟩ := z
    have S2 := Lib.hid (S1.out.grew hb)
    have HP := Lib.hid hp
    have HB := Lib.hid hb
    obtain ⟨q1, q2, rfl⟩ := hp.form
    clear hb hp
    obtain ⟨⟨c0, c1, c2, c3, c4, c5⟩, ⟨f0, f1, f2, f3, f4, f5⟩⟩ := six_cells S2.out.out
    go_wp2_with (fail)
    change bodyPost _ _ _ _ _ (setTok w2 w.heap.size x.kind 0 x.name (.slice q1 x.pairs.length q2) x.text x.refs)
    obtain ⟨w9, hw9⟩ : ∃ W, setTok w2 w.heap.size x.kind 0 x.name (.slice q1 x.pairs.length q2) x.text x.refs = W := ⟨_, rfl⟩
    obtain ⟨r9, m9⟩ := setTok_row x.kind 0 x.name (.slice q1 x.pairs.length q2) x.text x.refs S2.out.out
    rw [hw9] at r9 m9 ⊢
    obtain ⟨⟨d0, d1, d2, d3, d4, d5⟩, _⟩ := six_cells r9
    refine bodyPost_ret (v := .tuple #[tokV x.kind 0 x.name (.slice q1 x.pairs.length q2) x.text x.refs, .int .i64 (i : Int), .int .i64 0]) ?_ rfl ?_
    · simp [results, Tryz.results17, go_sem, d0, d1, d2, d3, d4, d5]
    · exact ⟨⟨_, rfl, (HP.out.kept m9 (HP.out.ne S1.out.le)).less (Nat.le_of_lt S1.out.le)⟩, S2.out.laid m9⟩
end Go.Proofs.YtidimpepfkdcmaaGreatDoor
namespace Go.Proofs.YtidimpepfkdcmaaGreatDoor
open Go.RowKit

set_option maxRecDepth 100000 in
set_option maxHeartbeats 1000000 in
theorem rone_qm_z (t : ByteArray) (k : Nat) (w : World) (ht : t.size ≤ 4000000) (_hk : k ≤ t.size) (h0 : k = 0) (hX : seesB t 0 [60, 63, 120, 109, 108] = false) (s0 : seesB t k [60, 33, 45, 45] = false) (s1 : seesB t k [60, 33, 91, 67, 68, 65, 84, 65, 91] = false) (s2 : seesB t k [60, 33, 68, 79, 67, 84, 89, 80, 69] = false) (s3 : seesB t k [60, 33] = false) (s4 : seesB t k [60, 63] = true) (r : Except Nat (Tok × Nat)) (HC : ∀ W, Calls Tryz.prog 31 #[.string t, .int .i64 ((k + 2 : Nat) : Int)] W (RtPost W r)) :
    Calls Tryz.prog 17 #[.string t, .int .i64 (k : Int)] w (RtPost w r) := by
  have HH := Lib.hid HC
  clear HC
  obtain ⟨k2, hk2⟩ : ∃ k2, k + 2 = k2 := ⟨_, rfl⟩
  rw [hk2] at HH
  have e2 : (k : Int) + 2 = (k2 : Int) := by omega
  have kb : (k : Int) ≤ 4000000 := by omega
  clear hk2
  have z0 : ((k : Int) == 0) = true := by rw [beq_iff_eq]; omega
  have SX := Lib.hid (fun W => refStands_at t ⟨#[60, 63, 120, 109, 108]⟩ 0 0 [60, 63, 120, 109, 108] W rfl rfl (by omega) (by omega) (by decide) (by decide))
  rw [hX] at SX
  clear hX
  clear h0
  have T0 := Lib.hid (fun W => refStands_at t ⟨#[60, 33, 45, 45]⟩ (k : Int) k [60, 33, 45, 45] W rfl rfl (by omega) (by omega) (by decide) (by decide))
  rw [s0] at T0
  clear s0
  have T1 := Lib.hid (fun W => refStands_at t ⟨#[60, 33, 91, 67, 68, 65, 84, 65, 91]⟩ (k : Int) k [60, 33, 91, 67, 68, 65, 84, 65, 91] W rfl rfl (by omega) (by omega) (by decide) (by decide))
  rw [s1] at T1
  clear s1
  have T2 := Lib.hid (fun W => refStands_at t ⟨#[60, 33, 68, 79, 67, 84, 89, 80, 69]⟩ (k : Int) k [60, 33, 68, 79, 67, 84, 89, 80, 69] W rfl rfl (by omega) (by omega) (by decide) (by decide))
  rw [s2] at T2
  clear s2
  have T3 := Lib.hid (fun W => refStands_at t ⟨#[60, 33]⟩ (k : Int) k [60, 33] W rfl rfl (by omega) (by omega) (by decide) (by decide))
  rw [s3] at T3
  clear s3
  have T4 := Lib.hid (fun W => refStands_at t ⟨#[60, 63]⟩ (k : Int) k [60, 63] W rfl rfl (by omega) (by omega) (by decide) (by decide))
  rw [s4] at T4
  clear s4
  clear ht _hk
  go_enter Tryz.func17, Tryz.ntmps17
  go_wp2_with (fail)
  obtain ⟨W1, hW1⟩ : ∃ W, w.alloc TOKR = W := ⟨_, rfl⟩
  rw [hW1]
  have S1 := Lib.hid (RSt.first hW1)
  clear hW1
  go_wp2_with (fail)
  refine (SX.out _).mono ?_
  rintro e w' ⟨rfl, rfl⟩
  go_wp2_with (fail)
  refine (T0.out _).mono ?_
  rintro e w' ⟨rfl, rfl⟩
  go_wp2_with (fail)
  refine (T1.out _).mono ?_
  rintro e w' ⟨rfl, rfl⟩
  go_wp2_with (fail)
  refine (T2.out _).mono ?_
  rintro e w' ⟨rfl, rfl⟩
  go_wp2_with (fail)
  refine (T3.out _).mono ?_
  rintro e w' ⟨rfl, rfl⟩
  go_wp2_with (fail)
  refine (T4.out _).mono ?_
  rintro e w' ⟨rfl, rfl⟩
  go_wp2_with (fail)
  refine (HH.out _).mono ?_
  intro e w2 z
  cases r with
  | error e0 =>
    obtain ⟨rfl, hb⟩ := z
    have S2 := Lib.hid (S1.out.grew hb)
    clear hb
    obtain ⟨⟨c0, c1, c2, c3, c4, c5⟩, ⟨f0, f1, f2, f3, f4, f5⟩⟩ := six_cells S2.out.out
    go_wp2_with (fail)
    change bodyPost _ _ _ _ _ (setTok w2 w.heap.size 0 0 ⟨#[]⟩ (.slice none 0 0) ⟨#[]⟩ 0)
    obtain ⟨w9, hw9⟩ : ∃ W, setTok w2 w.heap.size 0 0 ⟨#[]⟩ (.slice none 0 0) ⟨#[]⟩ 0 = W := ⟨_, rfl⟩
    obtain ⟨r9, m9⟩ := setTok_row 0 0 ⟨#[]⟩ (.slice none 0 0) ⟨#[]⟩ 0 S2.out.out
    rw [hw9] at r9 m9 ⊢
    obtain ⟨⟨d0, d1, d2, d3, d4, d5⟩, _⟩ := six_cells r9
    refine bodyPost_ret (v := .tuple #[tokV 0 0 ⟨#[]⟩ (.slice none 0 0) ⟨#[]⟩ 0, .int .i64 0, .int .i64 (e0 : Int)]) ?_ rfl ?_
    · simp [results, Tryz.results17, go_sem, d0, d1, d2, d3, d4, d5]
    · exact ⟨rfl, S2.out.laid m9⟩
  | ok q =>
    obtain ⟨x, i⟩ := q
    obtain ⟨⟨pv, rfl, hp⟩, hb⟩ := z
    have S2 := Lib.hid (S1.out.grew hb)
    have HP := Lib.hid hp
    have HB := Lib.hid hb
    obtain ⟨q1, q2, rfl⟩ := hp.form
    clear hb hp
    obtain ⟨⟨c0, c1, c2, c3, c4, c5⟩, ⟨f0, f1, f2, f3, f4, f5⟩⟩ := six_cells S2.out.out
    go_wp2_with (fail)
    change bodyPost _ _ _ _ _ (setTok w2 w.heap.size x.kind 0 x.name (.slice q1 x.pairs.length q2) x.text x.refs)
    obtain ⟨w9, hw9⟩ : ∃ W, setTok w2 w.heap.size x.kind 0 x.name (.slice q1 x.pairs.length q2) x.text x.refs = W := ⟨_, rfl⟩
    obtain ⟨r9, m9⟩ := setTok_row x.kind 0 x.name (.slice q1 x.pairs.length q2) x.text x.refs S2.out.out
    rw [hw9] at r9 m9 ⊢
    obtain ⟨⟨d0, d1, d2, d3, d4, d5⟩, _⟩ := six_cells r9
    refine bodyPost_ret (v := .tuple #[tokV x.kind 0 x.name (.slice q1 x.pairs.length q2) x.text x.refs, .int .i64 (i : Int), .int .i64 0]) ?_ rfl ?_
    · simp [results, Tryz.results17, go_sem, d0, d1, d2, d3, d4, d5]
    · exact ⟨⟨_, rfl, (HP.out.kept m9 (HP.out.ne S1.out.le)).less (Nat.le_of_lt S1.out.le)⟩, S2.out.laid m9⟩
set_option maxRecDepth 100000 in
set_option maxHeartbeats 1000000 in
theorem rone_qm_x (t : ByteArray) (k : Nat) (w : World) (ht : t.size ≤ 4000000) (_hk : k ≤ t.size) (h0 : k = 0) (hX : seesB t 0 [60, 63, 120, 109, 108] = true) (hV : whiteTo t 5 = 5) (s0 : seesB t k [60, 33, 45, 45] = false) (s1 : seesB t k [60, 33, 91, 67, 68, 65, 84, 65, 91] = false) (s2 : seesB t k [60, 33, 68, 79, 67, 84, 89, 80, 69] = false) (s3 : seesB t k [60, 33] = false) (s4 : seesB t k [60, 63] = true) (r : Except Nat (Tok × Nat)) (HC : ∀ W, Calls Tryz.prog 31 #[.string t, .int .i64 ((k + 2 : Nat) : Int)] W (RtPost W r)) :
    Calls Tryz.prog 17 #[.string t, .int .i64 (k : Int)] w (RtPost w r) := by
  have HH := Lib.hid HC
  clear HC
  obtain ⟨k2, hk2⟩ : ∃ k2, k + 2 = k2 := ⟨_, rfl⟩
  rw [hk2] at HH
  have e2 : (k : Int) + 2 = (k2 : Int) := by omega
  have kb : (k : Int) ≤ 4000000 := by omega
  clear hk2
  have z0 : ((k : Int) == 0) = true := by rw [beq_iff_eq]; omega
  have SX := Lib.hid (fun W => refStands_at t ⟨#[60, 63, 120, 109, 108]⟩ 0 0 [60, 63, 120, 109, 108] W rfl rfl (by omega) (by omega) (by decide) (by decide))
  rw [hX] at SX
  clear hX
  have WX := Lib.hid (fun W => refWhite_at t 5 5 W rfl (by omega) (by omega))
  rw [hV] at WX
  clear h0
  have T0 := Lib.hid (fun W => refStands_at t ⟨#[60, 33, 45, 45]⟩ (k : Int) k [60, 33, 45, 45] W rfl rfl (by omega) (by omega) (by decide) (by decide))
  rw [s0] at T0
  clear s0
  have T1 := Lib.hid (fun W => refStands_at t ⟨#[60, 33, 91, 67, 68, 65, 84, 65, 91]⟩ (k : Int) k [60, 33, 91, 67, 68, 65, 84, 65, 91] W rfl rfl (by omega) (by omega) (by decide) (by decide))
  rw [s1] at T1
  clear s1
  have T2 := Lib.hid (fun W => refStands_at t ⟨#[60, 33, 68, 79, 67, 84, 89, 80, 69]⟩ (k : Int) k [60, 33, 68, 79, 67, 84, 89, 80, 69] W rfl rfl (by omega) (by omega) (by decide) (by decide))
  rw [s2] at T2
  clear s2
  have T3 := Lib.hid (fun W => refStands_at t ⟨#[60, 33]⟩ (k : Int) k [60, 33] W rfl rfl (by omega) (by omega) (by decide) (by decide))
  rw [s3] at T3
  clear s3
  have T4 := Lib.hid (fun W => refStands_at t ⟨#[60, 63]⟩ (k : Int) k [60, 63] W rfl rfl (by omega) (by omega) (by decide) (by decide))
  rw [s4] at T4
  clear s4
  clear ht _hk
  go_enter Tryz.func17, Tryz.ntmps17
  go_wp2_with (fail)
  obtain ⟨W1, hW1⟩ : ∃ W, w.alloc TOKR = W := ⟨_, rfl⟩
  rw [hW1]
  have S1 := Lib.hid (RSt.first hW1)
  clear hW1
  go_wp2_with (fail)
  refine (SX.out _).mono ?_
  rintro e w' ⟨rfl, rfl⟩
  go_wp2_with (fail)
  refine (WX.out _).mono ?_
  rintro e w' ⟨rfl, rfl⟩
  go_wp2_with (fail)
  refine (T0.out _).mono ?_
  rintro e w' ⟨rfl, rfl⟩
  go_wp2_with (fail)
  refine (T1.out _).mono ?_
  rintro e w' ⟨rfl, rfl⟩
  go_wp2_with (fail)
  refine (T2.out _).mono ?_
  rintro e w' ⟨rfl, rfl⟩
  go_wp2_with (fail)
  refine (T3.out _).mono ?_
  rintro e w' ⟨rfl, rfl⟩
  go_wp2_with (fail)
  refine (T4.out _).mono ?_
  rintro e w' ⟨rfl, rfl⟩
  go_wp2_with (fail)
  refine (HH.out _).mono ?_
  intro e w2 z
  cases r with
  | error e0 =>
    obtain ⟨rfl, hb⟩ := z
    have S2 := Lib.hid (S1.out.grew hb)
    clear hb
    obtain ⟨⟨c0, c1, c2, c3, c4, c5⟩, ⟨f0, f1, f2, f3, f4, f5⟩⟩ := six_cells S2.out.out
    go_wp2_with (fail)
    change bodyPost _ _ _ _ _ (setTok w2 w.heap.size 0 0 ⟨#[]⟩ (.slice none 0 0) ⟨#[]⟩ 0)
    obtain ⟨w9, hw9⟩ : ∃ W, setTok w2 w.heap.size 0 0 ⟨#[]⟩ (.slice none 0 0) ⟨#[]⟩ 0 = W := ⟨_, rfl⟩
    obtain ⟨r9, m9⟩ := setTok_row 0 0 ⟨#[]⟩ (.slice none 0 0) ⟨#[]⟩ 0 S2.out.out
    rw [hw9] at r9 m9 ⊢
    obtain ⟨⟨d0, d1, d2, d3, d4, d5⟩, _⟩ := six_cells r9
    refine bodyPost_ret (v := .tuple #[tokV 0 0 ⟨#[]⟩ (.slice none 0 0) ⟨#[]⟩ 0, .int .i64 0, .int .i64 (e0 : Int)]) ?_ rfl ?_
    · simp [results, Tryz.results17, go_sem, d0, d1, d2, d3, d4, d5]
    · exact ⟨rfl, S2.out.laid m9⟩
  | ok q =>
    obtain ⟨x, i⟩ := q
    obtain ⟨⟨pv, rfl, hp⟩, hb⟩ := z
    have S2 := Lib.hid (S1.out.grew hb)
    have HP := Lib.hid hp
    have HB := Lib.hid hb
    obtain ⟨q1, q2, rfl⟩ := hp.form
    clear hb hp
    obtain ⟨⟨c0, c1, c2, c3, c4, c5⟩, ⟨f0, f1, f2, f3, f4, f5⟩⟩ := six_cells S2.out.out
    go_wp2_with (fail)
    change bodyPost _ _ _ _ _ (setTok w2 w.heap.size x.kind 0 x.name (.slice q1 x.pairs.length q2) x.text x.refs)
    obtain ⟨w9, hw9⟩ : ∃ W, setTok w2 w.heap.size x.kind 0 x.name (.slice q1 x.pairs.length q2) x.text x.refs = W := ⟨_, rfl⟩
    obtain ⟨r9, m9⟩ := setTok_row x.kind 0 x.name (.slice q1 x.pairs.length q2) x.text x.refs S2.out.out
    rw [hw9] at r9 m9 ⊢
    obtain ⟨⟨d0, d1, d2, d3, d4, d5⟩, _⟩ := six_cells r9
    refine bodyPost_ret (v := .tuple #[tokV x.kind 0 x.name (.slice q1 x.pairs.length q2) x.text x.refs, .int .i64 (i : Int), .int .i64 0]) ?_ rfl ?_
    · simp [results, Tryz.results17, go_sem, d0, d1, d2, d3, d4, d5]
    · exact ⟨⟨_, rfl, (HP.out.kept m9 (HP.out.ne S1.out.le)).less (Nat.le_of_lt S1.out.le)⟩, S2.out.laid m9⟩
set_option maxRecDepth 100000 in
set_option maxHeartbeats 1000000 in
theorem rone_tag_z (t : ByteArray) (k : Nat) (w : World) (ht : t.size ≤ 4000000) (_hk : k ≤ t.size) (h0 : k = 0) (hX : seesB t 0 [60, 63, 120, 109, 108] = false) (s0 : seesB t k [60, 33, 45, 45] = false) (s1 : seesB t k [60, 33, 91, 67, 68, 65, 84, 65, 91] = false) (s2 : seesB t k [60, 33, 68, 79, 67, 84, 89, 80, 69] = false) (s3 : seesB t k [60, 33] = false) (s4 : seesB t k [60, 63] = false) (s5 : seesB t k [60, 47] = false) (hlt : k < t.size) (s9 : seesB t k [60] = true) (r : Except Nat (Tok × Nat)) (HC : ∀ W, Calls Tryz.prog 33 #[.string t, .int .i64 ((k + 1 : Nat) : Int)] W (RtPost W r)) :
    Calls Tryz.prog 17 #[.string t, .int .i64 (k : Int)] w (RtPost w r) := by
  have HH := Lib.hid HC
  clear HC
  obtain ⟨k2, hk2⟩ : ∃ k2, k + 1 = k2 := ⟨_, rfl⟩
  rw [hk2] at HH
  have e2 : (k : Int) + 1 = (k2 : Int) := by omega
  have kb : (k : Int) ≤ 4000000 := by omega
  clear hk2
  have z0 : ((k : Int) == 0) = true := by rw [beq_iff_eq]; omega
  have SX := Lib.hid (fun W => refStands_at t ⟨#[60, 63, 120, 109, 108]⟩ 0 0 [60, 63, 120, 109, 108] W rfl rfl (by omega) (by omega) (by decide) (by decide))
  rw [hX] at SX
  clear hX
  clear h0
  have T0 := Lib.hid (fun W => refStands_at t ⟨#[60, 33, 45, 45]⟩ (k : Int) k [60, 33, 45, 45] W rfl rfl (by omega) (by omega) (by decide) (by decide))
  rw [s0] at T0
  clear s0
  have T1 := Lib.hid (fun W => refStands_at t ⟨#[60, 33, 91, 67, 68, 65, 84, 65, 91]⟩ (k : Int) k [60, 33, 91, 67, 68, 65, 84, 65, 91] W rfl rfl (by omega) (by omega) (by decide) (by decide))
  rw [s1] at T1
  clear s1
  have T2 := Lib.hid (fun W => refStands_at t ⟨#[60, 33, 68, 79, 67, 84, 89, 80, 69]⟩ (k : Int) k [60, 33, 68, 79, 67, 84, 89, 80, 69] W rfl rfl (by omega) (by omega) (by decide) (by decide))
  rw [s2] at T2
  clear s2
  have T3 := Lib.hid (fun W => refStands_at t ⟨#[60, 33]⟩ (k : Int) k [60, 33] W rfl rfl (by omega) (by omega) (by decide) (by decide))
  rw [s3] at T3
  clear s3
  have T4 := Lib.hid (fun W => refStands_at t ⟨#[60, 63]⟩ (k : Int) k [60, 63] W rfl rfl (by omega) (by omega) (by decide) (by decide))
  rw [s4] at T4
  clear s4
  have T5 := Lib.hid (fun W => refStands_at t ⟨#[60, 47]⟩ (k : Int) k [60, 47] W rfl rfl (by omega) (by omega) (by decide) (by decide))
  rw [s5] at T5
  clear s5
  have l1 : (k : Int) < (t.size : Int) := by omega
  have g9 : ((t[k]'hlt).toNat : Int) = 60 := by
    rw [← idx_get t k hlt]
    have e := drop_at t k hlt
    unfold seesB at s9
    rw [e] at s9
    have e2 : (60 : UInt8) = t.get! k := by
      obtain ⟨r, hr⟩ := List.isPrefixOf_iff_prefix.1 s9
      injection hr
    rw [← e2]
    rfl
  clear s9
  clear ht _hk
  go_enter Tryz.func17, Tryz.ntmps17
  go_wp2_with (fail)
  obtain ⟨W1, hW1⟩ : ∃ W, w.alloc TOKR = W := ⟨_, rfl⟩
  rw [hW1]
  have S1 := Lib.hid (RSt.first hW1)
  clear hW1
  go_wp2_with (fail)
  refine (SX.out _).mono ?_
  rintro e w' ⟨rfl, rfl⟩
  go_wp2_with (fail)
  refine (T0.out _).mono ?_
  rintro e w' ⟨rfl, rfl⟩
  go_wp2_with (fail)
  refine (T1.out _).mono ?_
  rintro e w' ⟨rfl, rfl⟩
  go_wp2_with (fail)
  refine (T2.out _).mono ?_
  rintro e w' ⟨rfl, rfl⟩
  go_wp2_with (fail)
  refine (T3.out _).mono ?_
  rintro e w' ⟨rfl, rfl⟩
  go_wp2_with (fail)
  refine (T4.out _).mono ?_
  rintro e w' ⟨rfl, rfl⟩
  go_wp2_with (fail)
  refine (T5.out _).mono ?_
  rintro e w' ⟨rfl, rfl⟩
  go_wp2_with (fail)
  refine (HH.out _).mono ?_
  intro e w2 z
  cases r with
  | error e0 =>
    obtain ⟨rfl, hb⟩ := z
    have S2 := Lib.hid (S1.out.grew hb)
    clear hb
    obtain ⟨⟨c0, c1, c2, c3, c4, c5⟩, ⟨f0, f1, f2, f3, f4, f5⟩⟩ := six_cells S2.out.out
    go_wp2_with (fail)
    change bodyPost _ _ _ _ _ (setTok w2 w.heap.size 0 0 ⟨#[]⟩ (.slice none 0 0) ⟨#[]⟩ 0)
    obtain ⟨w9, hw9⟩ : ∃ W, setTok w2 w.heap.size 0 0 ⟨#[]⟩ (.slice none 0 0) ⟨#[]⟩ 0 = W := ⟨_, rfl⟩
    obtain ⟨r9, m9⟩ := setTok_row 0 0 ⟨#[]⟩ (.slice none 0 0) ⟨#[]⟩ 0 S2.out.out
    rw [hw9] at r9 m9 ⊢
    obtain ⟨⟨d0, d1, d2, d3, d4, d5⟩, _⟩ := six_cells r9
    refine bodyPost_ret (v := .tuple #[tokV 0 0 ⟨#[]⟩ (.slice none 0 0) ⟨#[]⟩ 0, .int .i64 0, .int .i64 (e0 : Int)]) ?_ rfl ?_
    · simp [results, Tryz.results17, go_sem, d0, d1, d2, d3, d4, d5]
    · exact ⟨rfl, S2.out.laid m9⟩
  | ok q =>
    obtain ⟨x, i⟩ := q
    obtain ⟨⟨pv, rfl, hp⟩, hb⟩ := z
    have S2 := Lib.hid (S1.out.grew hb)
    have HP := Lib.hid hp
    have HB := Lib.hid hb
    obtain ⟨q1, q2, rfl⟩ := hp.form
    clear hb hp
    obtain ⟨⟨c0, c1, c2, c3, c4, c5⟩, ⟨f0, f1, f2, f3, f4, f5⟩⟩ := six_cells S2.out.out
    go_wp2_with (fail)
    change bodyPost _ _ _ _ _ (setTok w2 w.heap.size x.kind 0 x.name (.slice q1 x.pairs.length q2) x.text x.refs)
    obtain ⟨w9, hw9⟩ : ∃ W, setTok w2 w.heap.size x.kind 0 x.name (.slice q1 x.pairs.length q2) x.text x.refs = W := ⟨_, rfl⟩
    obtain ⟨r9, m9⟩ := setTok_row x.kind 0 x.name (.slice q1 x.pairs.length q2) x.text x.refs S2.out.out
    rw [hw9] at r9 m9 ⊢
    obtain ⟨⟨d0, d1, d2, d3, d4, d5⟩, _⟩ := six_cells r9
    refine bodyPost_ret (v := .tuple #[tokV x.kind 0 x.name (.slice q1 x.pairs.length q2) x.text x.refs, .int .i64 (i : Int), .int .i64 0]) ?_ rfl ?_
    · simp [results, Tryz.results17, go_sem, d0, d1, d2, d3, d4, d5]
    · exact ⟨⟨_, rfl, (HP.out.kept m9 (HP.out.ne S1.out.le)).less (Nat.le_of_lt S1.out.le)⟩, S2.out.laid m9⟩
set_option maxRecDepth 100000 in
set_option maxHeartbeats 1000000 in
theorem rone_decl_d (t : ByteArray) (k : Nat) (w : World) (ht : t.size ≤ 4000000) (_hk : k ≤ t.size) (h0 : k = 0) (hX : seesB t 0 [60, 63, 120, 109, 108] = true) (hV : 5 < whiteTo t 5) (r : Except Nat (Tok × Nat)) (HC : ∀ W, Calls Tryz.prog 29 #[.string t] W (RtPost W r)) :
    Calls Tryz.prog 17 #[.string t, .int .i64 (k : Int)] w (RtPost w r) := by
  have HH := Lib.hid HC
  clear HC
  have z0 : ((k : Int) == 0) = true := by rw [beq_iff_eq]; omega
  have SX := Lib.hid (fun W => refStands_at t ⟨#[60, 63, 120, 109, 108]⟩ 0 0 [60, 63, 120, 109, 108] W rfl rfl (by omega) (by omega) (by decide) (by decide))
  rw [hX] at SX
  clear hX
  have WX := Lib.hid (fun W => refWhite_at t 5 5 W rfl (by omega) (by omega))
  obtain ⟨v5, hv5⟩ : ∃ v5, whiteTo t 5 = v5 := ⟨_, rfl⟩
  rw [hv5] at WX hV
  have v6 : (5 : Int) < (v5 : Int) := by omega
  clear hv5 hV
  clear h0
  clear ht _hk
  go_enter Tryz.func17, Tryz.ntmps17
  go_wp2_with (fail)
  obtain ⟨W1, hW1⟩ : ∃ W, w.alloc TOKR = W := ⟨_, rfl⟩
  rw [hW1]
  have S1 := Lib.hid (RSt.first hW1)
  clear hW1
  go_wp2_with (fail)
  refine (SX.out _).mono ?_
  rintro e w' ⟨rfl, rfl⟩
  go_wp2_with (fail)
  refine (WX.out _).mono ?_
  rintro e w' ⟨rfl, rfl⟩
  go_wp2_with (fail)
  refine (HH.out _).mono ?_
  intro e w2 z
  cases r with
  | error e0 =>
    obtain ⟨rfl, hb⟩ := z
    have S2 := Lib.hid (S1.out.grew hb)
    clear hb
    obtain ⟨⟨c0, c1, c2, c3, c4, c5⟩, ⟨f0, f1, f2, f3, f4, f5⟩⟩ := six_cells S2.out.out
    go_wp2_with (fail)
    change bodyPost _ _ _ _ _ (setTok w2 w.heap.size 0 0 ⟨#[]⟩ (.slice none 0 0) ⟨#[]⟩ 0)
    obtain ⟨w9, hw9⟩ : ∃ W, setTok w2 w.heap.size 0 0 ⟨#[]⟩ (.slice none 0 0) ⟨#[]⟩ 0 = W := ⟨_, rfl⟩
    obtain ⟨r9, m9⟩ := setTok_row 0 0 ⟨#[]⟩ (.slice none 0 0) ⟨#[]⟩ 0 S2.out.out
    rw [hw9] at r9 m9 ⊢
    obtain ⟨⟨d0, d1, d2, d3, d4, d5⟩, _⟩ := six_cells r9
    refine bodyPost_ret (v := .tuple #[tokV 0 0 ⟨#[]⟩ (.slice none 0 0) ⟨#[]⟩ 0, .int .i64 0, .int .i64 (e0 : Int)]) ?_ rfl ?_
    · simp [results, Tryz.results17, go_sem, d0, d1, d2, d3, d4, d5]
    · exact ⟨rfl, S2.out.laid m9⟩
  | ok q =>
    obtain ⟨x, i⟩ := q
    obtain ⟨⟨pv, rfl, hp⟩, hb⟩ := z
    have S2 := Lib.hid (S1.out.grew hb)
    have HP := Lib.hid hp
    have HB := Lib.hid hb
    obtain ⟨q1, q2, rfl⟩ := hp.form
    clear hb hp
    obtain ⟨⟨c0, c1, c2, c3, c4, c5⟩, ⟨f0, f1, f2, f3, f4, f5⟩⟩ := six_cells S2.out.out
    go_wp2_with (fail)
    change bodyPost _ _ _ _ _ (setTok w2 w.heap.size x.kind 0 x.name (.slice q1 x.pairs.length q2) x.text x.refs)
    obtain ⟨w9, hw9⟩ : ∃ W, setTok w2 w.heap.size x.kind 0 x.name (.slice q1 x.pairs.length q2) x.text x.refs = W := ⟨_, rfl⟩
    obtain ⟨r9, m9⟩ := setTok_row x.kind 0 x.name (.slice q1 x.pairs.length q2) x.text x.refs S2.out.out
    rw [hw9] at r9 m9 ⊢
    obtain ⟨⟨d0, d1, d2, d3, d4, d5⟩, _⟩ := six_cells r9
    refine bodyPost_ret (v := .tuple #[tokV x.kind 0 x.name (.slice q1 x.pairs.length q2) x.text x.refs, .int .i64 (i : Int), .int .i64 0]) ?_ rfl ?_
    · simp [results, Tryz.results17, go_sem, d0, d1, d2, d3, d4, d5]
    · exact ⟨⟨_, rfl, (HP.out.kept m9 (HP.out.ne S1.out.le)).less (Nat.le_of_lt S1.out.le)⟩, S2.out.laid m9⟩
end Go.Proofs.YtidimpepfkdcmaaGreatDoor
