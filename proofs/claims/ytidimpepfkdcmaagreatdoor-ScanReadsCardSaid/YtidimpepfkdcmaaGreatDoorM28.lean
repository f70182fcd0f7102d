/- Proved here: what the document's One answers at characters. -/
import Derived.Test.YtidimpepfkdcmaaGreatDoorM24
import Derived.Test.YtidimpepfkdcmaaGreatDoorM33
namespace Go.Proofs.YtidimpepfkdcmaaGreatDoor
open Go.RowKit

def cntF (t : ByteArray) (j e : Nat) : Nat := ((t.data.toList.drop j).take (e - j)).count 38
theorem cnt_end (t : ByteArray) (e : Nat) : cntF t e e = 0 := by
  unfold cntF
  rw [Nat.sub_self, List.take_zero]
  rfl
theorem cnt_step {t : ByteArray} {j e : Nat} (hj : j < e) (he : e ≤ t.size) : cntF t j e = (if t.get! j = 38 then 1 else 0) + cntF t (j + 1) e := by
  unfold cntF
  obtain ⟨d, hd⟩ : ∃ d, e - j = d + 1 := ⟨e - j - 1, by omega⟩
  rw [drop_at t j (by omega), hd, List.take_succ_cons, List.count_cons, show e - (j + 1) = d by omega, Nat.add_comm]
  by_cases h : t.get! j = 38
  · rw [if_pos h, h]
    rfl
  · rw [if_neg h, if_neg (by simpa using h)]
theorem cnt_all {t : ByteArray} {k e : Nat} : cntF t k e = (t.extract k e).data.toList.count 38 := by
  unfold cntF
  rw [Lib.extract_data]
set_option maxRecDepth 100000 in
set_option maxHeartbeats 1000000 in
theorem rone_chars_ig_n (t : ByteArray) (k : Nat) (w : World) (ht : t.size ≤ 4000000) (hk : k ≤ t.size) (h0 : ¬ k = 0) (s0 : seesB t k [60, 33, 45, 45] = false) (s1 : seesB t k [60, 33, 91, 67, 68, 65, 84, 65, 91] = false) (s2 : seesB t k [60, 33, 68, 79, 67, 84, 89, 80, 69] = false) (s3 : seesB t k [60, 33] = false) (s4 : seesB t k [60, 63] = false) (s5 : seesB t k [60, 47] = false) (hlt : k < t.size) (s9 : ¬ t.get! k = 60) (m : Nat) (hm : k ≤ m ∧ m ≤ t.size) (hf : findF t k [60] = some m) (s : ByteArray) (u : Int) (e0 : Int) (he : e0 = 0) (HR : ∀ (W : World) (b off cap : Nat), (t.extract k m).size ≤ cap → (∀ j, j < (t.extract k m).size → W.cell? ⟨b, off + j, none⟩ = some (.int .u8 (((t.extract k m).get! j).toNat : Int))) → Calls Tryz.prog 34 #[.slice (some ⟨b, off, none⟩) (t.extract k m).size cap, .bool false] W fun e w' => e = .returned (.tuple #[.string s, .int .i64 u, .int .i64 e0]) ∧ Below W.heap.size W w') :
    Calls Tryz.prog 17 #[.string t, .int .i64 (k : Int)] w fun e w' => e = .returned (.tuple #[tokV 5 0 ⟨#[]⟩ (.slice none 0 0) s ((cntF t k m : Nat) : Int), .int .i64 (m : Int), .int .i64 0]) ∧ Below w.heap.size w w' := by
  have l1 : (k : Int) < (t.size : Int) := by omega
  have l0 : (k : Int) ≤ 4000000 := by omega
  have l3 : (t.size : Int) ≤ 4000000 := by omega
  obtain ⟨x, hx⟩ : ∃ x : Int, ((t[k]'hlt).toNat : Int) = x := ⟨_, rfl⟩
  have g9 : ¬ x = 60 := by
    rw [← hx, ← idx_get t k hlt]
    exact u8_ne (by decide) s9
  have g8 : (x == 60) = false := by rw [beq_eq_false_iff_ne]; exact g9
  have FI := Lib.hid (fun W => refFind_at t ⟨#[60]⟩ (k : Int) k [60] W rfl rfl (by omega) (by omega) (by decide) (by decide))
  have hfz : findZ t k [60] = (m : Int) := by unfold findZ; rw [hf]
  rw [hfz] at FI
  have i2 : (m : Int) ≤ 4000000 := by omega
  have i3 : (k : Int) ≤ (m : Int) := by omega
  have i4 : (m : Int) ≤ (t.size : Int) := by omega
  have i5 : ¬ (m : Int) < 0 := by omega
  have HM := Lib.hid hm
  clear hfz hf
  have HRR := Lib.hid HR
  have HK := Lib.hid (And.intro hk (And.intro ht hlt))
  clear HR
  subst he
  have HE := Lib.hid (show k ≤ m ∧ m ≤ t.size by omega)
  obtain ⟨C, hC⟩ : ∃ C, cntF t k m = C := ⟨_, rfl⟩
  have HC := Lib.hid hC
  rw [hC]
  clear hC
  have z0 : ((k : Int) == 0) = false := by rw [beq_eq_false_iff_ne]; omega
  have z1 : ¬ (k : Int) = 0 := by omega
  clear h0
  have T0 := Lib.hid (fun W => refStands_at t ⟨#[60, 33, 45, 45]⟩ (k : Int) k [60, 33, 45, 45] W rfl rfl (by omega) (by omega) (by decide) (by decide))
  rw [s0] at T0
  clear s0
  have T1 := Lib.hid (fun W => refStands_at t ⟨#[60, 33, 91, 67, 68, 65, 84, 65, 91]⟩ (k : Int) k [60, 33, 91, 67, 68, 65, 84, 65, 91] W rfl rfl (by omega) (by omega) (by decide) (by decide))
  rw [s1] at T1
  clear s1
  have T2 := Lib.hid (fun W => refStands_at t ⟨#[60, 33, 68, 79, 67, 84, 89, 80, 69]⟩ (k : Int) k [60, 33, 68, 79, 67, 84, 89, 80, 69] W rfl rfl (by omega) (by omega) (by decide) (by decide))
  rw [s2] at T2
  clear s2
  have T3 := Lib.hid (fun W => refStands_at t ⟨#[60, 33]⟩ (k : Int) k [60, 33] W rfl rfl (by omega) (by omega) (by decide) (by decide))
  rw [s3] at T3
  clear s3
  have T4 := Lib.hid (fun W => refStands_at t ⟨#[60, 63]⟩ (k : Int) k [60, 63] W rfl rfl (by omega) (by omega) (by decide) (by decide))
  rw [s4] at T4
  clear s4
  have T5 := Lib.hid (fun W => refStands_at t ⟨#[60, 47]⟩ (k : Int) k [60, 47] W rfl rfl (by omega) (by omega) (by decide) (by decide))
  rw [s5] at T5
  clear s5
  clear ht hk s9
  go_enter Tryz.func17, Tryz.ntmps17
  go_wp2_with (fail)
  obtain ⟨W1, hW1⟩ : ∃ W, w.alloc TOKR = W := ⟨_, rfl⟩
  rw [hW1]
  have S1 := Lib.hid (RSt.first hW1)
  clear hW1
  go_wp2_with (fail)
  refine (T0.out _).mono ?_
  rintro e w' ⟨rfl, rfl⟩
  go_wp2_with (fail)
  refine (T1.out _).mono ?_
  rintro e w' ⟨rfl, rfl⟩
  go_wp2_with (fail)
  refine (T2.out _).mono ?_
  rintro e w' ⟨rfl, rfl⟩
  go_wp2_with (fail)
  refine (T3.out _).mono ?_
  rintro e w' ⟨rfl, rfl⟩
  go_wp2_with (fail)
  refine (T4.out _).mono ?_
  rintro e w' ⟨rfl, rfl⟩
  go_wp2_with (fail)
  refine (T5.out _).mono ?_
  rintro e w' ⟨rfl, rfl⟩
  go_wp2_with (fail)
  refine (FI.out _).mono ?_
  rintro e w' ⟨rfl, rfl⟩
  obtain ⟨raw, hraw⟩ : ∃ r, t.extract k m = r := ⟨_, rfl⟩
  rw [hraw] at HRR
  obtain ⟨cap, W2, hcv, hcap, hb2, _, hp⟩ := bytes_of W1 raw
  have R := Lib.hid (HRR.out W2 W1.heap.size 0 cap hcap hp)
  have HB2 := Lib.hid hb2
  clear hcap hb2 hp HRR
  go_wp2_with (fail)
  refine R.out.mono ?_
  rintro e w3 ⟨rfl, hb⟩
  have S3 := Lib.hid (S1.out.grew (below_cat HB2.out hb))
  clear hb hcv
  clear HM
  go_wp2_with (fail)
  go_loop [16, 17] (fun r q => (∃ c j : Nat, q = .int .i64 (j : Int) ∧ r = .int .i64 (c : Int) ∧ k ≤ j ∧ j ≤ m ∧ c ≤ j ∧ Hid (c + cntF t j m = C))) (fun _ q => m - (intOf q).toNat)
  case atStart => exact ⟨0, k, rfl, rfl, Nat.le_refl _, HE.out.1, Nat.zero_le _, Lib.hid (by rw [Nat.zero_add]; exact HC.out)⟩
  case round =>
    obtain ⟨c, j, rfl, rfl, hj1, hj2, hcj, HD⟩ := hrel
    have hk2 := HE.out.2
    have ht2 := HK.out.2.1
    have cb : (c : Int) ≤ 4000000 := by omega
    have jb : (j : Int) ≤ 4000000 := by omega
    by_cases hl2 : j < m
    · have hl3 : j < t.size := by omega
      have l4 : (j : Int) < (m : Int) := by omega
      have l5 : (j : Int) < (t.size : Int) := by omega
      have HS := Lib.hid (cnt_step hl2 hk2)
      obtain ⟨y, hy⟩ : ∃ y : Int, ((t[j]'hl3).toNat : Int) = y := ⟨_, rfl⟩
      by_cases h38 : t.get! j = 38
      · have y38 : y = 38 := by
          rw [← hy, ← idx_get t j hl3, h38]
          rfl
        have HN := Lib.hid (show c + 1 + cntF t (j + 1) m = C by
          rw [← HD.out, HS.out, if_pos h38]
          omega)
        subst y38
        clear HS HD h38
        go_wp2_with (fail)
        go_round
        case rel => exact ⟨c + 1, j + 1, by go_num, by go_num, by omega, by omega, by omega, HN⟩
        case measure => simp [intOf]; omega
      · have y38 : ¬ y = 38 := by
          rw [← hy, ← idx_get t j hl3]
          exact u8_ne (by decide) h38
        have y39 : (y == 38) = false := by rw [beq_eq_false_iff_ne]; exact y38
        have HN := Lib.hid (show c + cntF t (j + 1) m = C by
          rw [← HD.out, HS.out, if_neg h38]
          omega)
        clear HS HD h38
        go_wp2_with (fail)
        go_round
        case rel => exact ⟨c, j + 1, by go_num, rfl, by omega, by omega, by omega, HN⟩
        case measure => simp [intOf]; omega
    · have hj : m = j := by omega
      subst hj
      have hcc : c = C := by
        rw [← HD.out, cnt_end, Nat.add_zero]
      subst hcc
      have l4 : ¬ (m : Int) < (m : Int) := by omega
      clear HD hj1 hj2 hcj hl2
      obtain ⟨⟨c0, c1, c2, c3, c4, c5⟩, ⟨f0, f1, f2, f3, f4, f5⟩⟩ := six_cells S3.out.out
      go_wp2_with (fail)
      change bodyPost _ _ _ _ _ (setTok w3 w.heap.size 5 0 ⟨#[]⟩ (.slice none 0 0) s (c : Int))
      obtain ⟨w9, hw9⟩ : ∃ W, setTok w3 w.heap.size 5 0 ⟨#[]⟩ (.slice none 0 0) s (c : Int) = W := ⟨_, rfl⟩
      obtain ⟨r9, m9⟩ := setTok_row 5 0 ⟨#[]⟩ (.slice none 0 0) s (c : Int) S3.out.out
      rw [hw9] at r9 m9 ⊢
      obtain ⟨⟨d0, d1, d2, d3, d4, d5⟩, _⟩ := six_cells r9
      refine bodyPost_ret (v := .tuple #[tokV 5 0 ⟨#[]⟩ (.slice none 0 0) s (c : Int), .int .i64 (m : Int), .int .i64 0]) ?_ rfl ?_
      · simp [results, Tryz.results17, go_sem, d0, d1, d2, d3, d4, d5]
      · exact ⟨rfl, S3.out.laid m9⟩
set_option maxRecDepth 100000 in
set_option maxHeartbeats 1000000 in
theorem rone_chars_ib_n (t : ByteArray) (k : Nat) (w : World) (ht : t.size ≤ 4000000) (hk : k ≤ t.size) (h0 : ¬ k = 0) (s0 : seesB t k [60, 33, 45, 45] = false) (s1 : seesB t k [60, 33, 91, 67, 68, 65, 84, 65, 91] = false) (s2 : seesB t k [60, 33, 68, 79, 67, 84, 89, 80, 69] = false) (s3 : seesB t k [60, 33] = false) (s4 : seesB t k [60, 63] = false) (s5 : seesB t k [60, 47] = false) (hlt : k < t.size) (s9 : ¬ t.get! k = 60) (m : Nat) (hm : k ≤ m ∧ m ≤ t.size) (hf : findF t k [60] = some m) (s : ByteArray) (u : Int) (e0 : Int) (he : e0 ≠ 0) (HR : ∀ (W : World) (b off cap : Nat), (t.extract k m).size ≤ cap → (∀ j, j < (t.extract k m).size → W.cell? ⟨b, off + j, none⟩ = some (.int .u8 (((t.extract k m).get! j).toNat : Int))) → Calls Tryz.prog 34 #[.slice (some ⟨b, off, none⟩) (t.extract k m).size cap, .bool false] W fun e w' => e = .returned (.tuple #[.string s, .int .i64 u, .int .i64 e0]) ∧ Below W.heap.size W w') :
    Calls Tryz.prog 17 #[.string t, .int .i64 (k : Int)] w fun e w' => e = .returned (.tuple #[tokV 0 0 ⟨#[]⟩ (.slice none 0 0) ⟨#[]⟩ 0, .int .i64 0, .int .i64 e0]) ∧ Below w.heap.size w w' := by
  have l1 : (k : Int) < (t.size : Int) := by omega
  have l0 : (k : Int) ≤ 4000000 := by omega
  have l3 : (t.size : Int) ≤ 4000000 := by omega
  obtain ⟨x, hx⟩ : ∃ x : Int, ((t[k]'hlt).toNat : Int) = x := ⟨_, rfl⟩
  have g9 : ¬ x = 60 := by
    rw [← hx, ← idx_get t k hlt]
    exact u8_ne (by decide) s9
  have g8 : (x == 60) = false := by rw [beq_eq_false_iff_ne]; exact g9
  have FI := Lib.hid (fun W => refFind_at t ⟨#[60]⟩ (k : Int) k [60] W rfl rfl (by omega) (by omega) (by decide) (by decide))
  have hfz : findZ t k [60] = (m : Int) := by unfold findZ; rw [hf]
  rw [hfz] at FI
  have i2 : (m : Int) ≤ 4000000 := by omega
  have i3 : (k : Int) ≤ (m : Int) := by omega
  have i4 : (m : Int) ≤ (t.size : Int) := by omega
  have i5 : ¬ (m : Int) < 0 := by omega
  have HM := Lib.hid hm
  clear hfz hf
  have HRR := Lib.hid HR
  have HK := Lib.hid (And.intro hk (And.intro ht hlt))
  clear HR
  have b0 : (e0 == 0) = false := by rw [beq_eq_false_iff_ne]; exact he
  have b1 : (e0 != 0) = true := by rw [bne_iff_ne]; exact he
  have b2 : ¬ e0 = 0 := he
  clear he
  have z0 : ((k : Int) == 0) = false := by rw [beq_eq_false_iff_ne]; omega
  have z1 : ¬ (k : Int) = 0 := by omega
  clear h0
  have T0 := Lib.hid (fun W => refStands_at t ⟨#[60, 33, 45, 45]⟩ (k : Int) k [60, 33, 45, 45] W rfl rfl (by omega) (by omega) (by decide) (by decide))
  rw [s0] at T0
  clear s0
  have T1 := Lib.hid (fun W => refStands_at t ⟨#[60, 33, 91, 67, 68, 65, 84, 65, 91]⟩ (k : Int) k [60, 33, 91, 67, 68, 65, 84, 65, 91] W rfl rfl (by omega) (by omega) (by decide) (by decide))
  rw [s1] at T1
  clear s1
  have T2 := Lib.hid (fun W => refStands_at t ⟨#[60, 33, 68, 79, 67, 84, 89, 80, 69]⟩ (k : Int) k [60, 33, 68, 79, 67, 84, 89, 80, 69] W rfl rfl (by omega) (by omega) (by decide) (by decide))
  rw [s2] at T2
  clear s2
  have T3 := Lib.hid (fun W => refStands_at t ⟨#[60, 33]⟩ (k : Int) k [60, 33] W rfl rfl (by omega) (by omega) (by decide) (by decide))
  rw [s3] at T3
  clear s3
  have T4 := Lib.hid (fun W => refStands_at t ⟨#[60, 63]⟩ (k : Int) k [60, 63] W rfl rfl (by omega) (by omega) (by decide) (by decide))
  rw [s4] at T4
  clear s4
  have T5 := Lib.hid (fun W => refStands_at t ⟨#[60, 47]⟩ (k : Int) k [60, 47] W rfl rfl (by omega) (by omega) (by decide) (by decide))
  rw [s5] at T5
  clear s5
  clear ht hk s9
  go_enter Tryz.func17, Tryz.ntmps17
  go_wp2_with (fail)
  obtain ⟨W1, hW1⟩ : ∃ W, w.alloc TOKR = W := ⟨_, rfl⟩
  rw [hW1]
  have S1 := Lib.hid (RSt.first hW1)
  clear hW1
  go_wp2_with (fail)
  refine (T0.out _).mono ?_
  rintro e w' ⟨rfl, rfl⟩
  go_wp2_with (fail)
  refine (T1.out _).mono ?_
  rintro e w' ⟨rfl, rfl⟩
  go_wp2_with (fail)
  refine (T2.out _).mono ?_
  rintro e w' ⟨rfl, rfl⟩
  go_wp2_with (fail)
  refine (T3.out _).mono ?_
  rintro e w' ⟨rfl, rfl⟩
  go_wp2_with (fail)
  refine (T4.out _).mono ?_
  rintro e w' ⟨rfl, rfl⟩
  go_wp2_with (fail)
  refine (T5.out _).mono ?_
  rintro e w' ⟨rfl, rfl⟩
  go_wp2_with (fail)
  refine (FI.out _).mono ?_
  rintro e w' ⟨rfl, rfl⟩
  obtain ⟨raw, hraw⟩ : ∃ r, t.extract k m = r := ⟨_, rfl⟩
  rw [hraw] at HRR
  obtain ⟨cap, W2, hcv, hcap, hb2, _, hp⟩ := bytes_of W1 raw
  have R := Lib.hid (HRR.out W2 W1.heap.size 0 cap hcap hp)
  have HB2 := Lib.hid hb2
  clear hcap hb2 hp HRR
  go_wp2_with (fail)
  refine R.out.mono ?_
  rintro e w3 ⟨rfl, hb⟩
  have S3 := Lib.hid (S1.out.grew (below_cat HB2.out hb))
  clear hb hcv
  obtain ⟨⟨c0, c1, c2, c3, c4, c5⟩, ⟨f0, f1, f2, f3, f4, f5⟩⟩ := six_cells S3.out.out
  go_wp2_with (fail)
  change bodyPost _ _ _ _ _ (setTok w3 w.heap.size 0 0 ⟨#[]⟩ (.slice none 0 0) ⟨#[]⟩ 0)
  obtain ⟨w9, hw9⟩ : ∃ W, setTok w3 w.heap.size 0 0 ⟨#[]⟩ (.slice none 0 0) ⟨#[]⟩ 0 = W := ⟨_, rfl⟩
  obtain ⟨r9, m9⟩ := setTok_row 0 0 ⟨#[]⟩ (.slice none 0 0) ⟨#[]⟩ 0 S3.out.out
  rw [hw9] at r9 m9 ⊢
  obtain ⟨⟨d0, d1, d2, d3, d4, d5⟩, _⟩ := six_cells r9
  refine bodyPost_ret (v := .tuple #[tokV 0 0 ⟨#[]⟩ (.slice none 0 0) ⟨#[]⟩ 0, .int .i64 0, .int .i64 e0]) ?_ rfl ?_
  · simp [results, Tryz.results17, go_sem, d0, d1, d2, d3, d4, d5]
  · exact ⟨rfl, S3.out.laid m9⟩
set_option maxRecDepth 100000 in
set_option maxHeartbeats 1000000 in
theorem rone_chars_eg_n (t : ByteArray) (k : Nat) (w : World) (ht : t.size ≤ 4000000) (hk : k ≤ t.size) (h0 : ¬ k = 0) (s0 : seesB t k [60, 33, 45, 45] = false) (s1 : seesB t k [60, 33, 91, 67, 68, 65, 84, 65, 91] = false) (s2 : seesB t k [60, 33, 68, 79, 67, 84, 89, 80, 69] = false) (s3 : seesB t k [60, 33] = false) (s4 : seesB t k [60, 63] = false) (s5 : seesB t k [60, 47] = false) (hlt : k < t.size) (s9 : ¬ t.get! k = 60) (hf : findF t k [60] = none) (s : ByteArray) (u : Int) (e0 : Int) (he : e0 = 0) (HR : ∀ (W : World) (b off cap : Nat), (t.extract k t.size).size ≤ cap → (∀ j, j < (t.extract k t.size).size → W.cell? ⟨b, off + j, none⟩ = some (.int .u8 (((t.extract k t.size).get! j).toNat : Int))) → Calls Tryz.prog 34 #[.slice (some ⟨b, off, none⟩) (t.extract k t.size).size cap, .bool false] W fun e w' => e = .returned (.tuple #[.string s, .int .i64 u, .int .i64 e0]) ∧ Below W.heap.size W w') :
    Calls Tryz.prog 17 #[.string t, .int .i64 (k : Int)] w fun e w' => e = .returned (.tuple #[tokV 5 0 ⟨#[]⟩ (.slice none 0 0) s ((cntF t k t.size : Nat) : Int), .int .i64 (t.size : Int), .int .i64 0]) ∧ Below w.heap.size w w' := by
  have l1 : (k : Int) < (t.size : Int) := by omega
  have l0 : (k : Int) ≤ 4000000 := by omega
  have l3 : (t.size : Int) ≤ 4000000 := by omega
  obtain ⟨x, hx⟩ : ∃ x : Int, ((t[k]'hlt).toNat : Int) = x := ⟨_, rfl⟩
  have g9 : ¬ x = 60 := by
    rw [← hx, ← idx_get t k hlt]
    exact u8_ne (by decide) s9
  have g8 : (x == 60) = false := by rw [beq_eq_false_iff_ne]; exact g9
  have FI := Lib.hid (fun W => refFind_at t ⟨#[60]⟩ (k : Int) k [60] W rfl rfl (by omega) (by omega) (by decide) (by decide))
  have hfz : findZ t k [60] = -1 := by unfold findZ; rw [hf]
  rw [hfz] at FI
  have i3 : (k : Int) ≤ (t.size : Int) := by omega
  clear hfz hf
  have HRR := Lib.hid HR
  have HK := Lib.hid (And.intro hk (And.intro ht hlt))
  clear HR
  subst he
  have HE := Lib.hid (show k ≤ t.size ∧ t.size ≤ t.size by omega)
  obtain ⟨C, hC⟩ : ∃ C, cntF t k t.size = C := ⟨_, rfl⟩
  have HC := Lib.hid hC
  rw [hC]
  clear hC
  have z0 : ((k : Int) == 0) = false := by rw [beq_eq_false_iff_ne]; omega
  have z1 : ¬ (k : Int) = 0 := by omega
  clear h0
  have T0 := Lib.hid (fun W => refStands_at t ⟨#[60, 33, 45, 45]⟩ (k : Int) k [60, 33, 45, 45] W rfl rfl (by omega) (by omega) (by decide) (by decide))
  rw [s0] at T0
  clear s0
  have T1 := Lib.hid (fun W => refStands_at t ⟨#[60, 33, 91, 67, 68, 65, 84, 65, 91]⟩ (k : Int) k [60, 33, 91, 67, 68, 65, 84, 65, 91] W rfl rfl (by omega) (by omega) (by decide) (by decide))
  rw [s1] at T1
  clear s1
  have T2 := Lib.hid (fun W => refStands_at t ⟨#[60, 33, 68, 79, 67, 84, 89, 80, 69]⟩ (k : Int) k [60, 33, 68, 79, 67, 84, 89, 80, 69] W rfl rfl (by omega) (by omega) (by decide) (by decide))
  rw [s2] at T2
  clear s2
  have T3 := Lib.hid (fun W => refStands_at t ⟨#[60, 33]⟩ (k : Int) k [60, 33] W rfl rfl (by omega) (by omega) (by decide) (by decide))
  rw [s3] at T3
  clear s3
  have T4 := Lib.hid (fun W => refStands_at t ⟨#[60, 63]⟩ (k : Int) k [60, 63] W rfl rfl (by omega) (by omega) (by decide) (by decide))
  rw [s4] at T4
  clear s4
  have T5 := Lib.hid (fun W => refStands_at t ⟨#[60, 47]⟩ (k : Int) k [60, 47] W rfl rfl (by omega) (by omega) (by decide) (by decide))
  rw [s5] at T5
  clear s5
  clear ht hk s9
  go_enter Tryz.func17, Tryz.ntmps17
  go_wp2_with (fail)
  obtain ⟨W1, hW1⟩ : ∃ W, w.alloc TOKR = W := ⟨_, rfl⟩
  rw [hW1]
  have S1 := Lib.hid (RSt.first hW1)
  clear hW1
  go_wp2_with (fail)
  refine (T0.out _).mono ?_
  rintro e w' ⟨rfl, rfl⟩
  go_wp2_with (fail)
  refine (T1.out _).mono ?_
  rintro e w' ⟨rfl, rfl⟩
  go_wp2_with (fail)
  refine (T2.out _).mono ?_
  rintro e w' ⟨rfl, rfl⟩
  go_wp2_with (fail)
  refine (T3.out _).mono ?_
  rintro e w' ⟨rfl, rfl⟩
  go_wp2_with (fail)
  refine (T4.out _).mono ?_
  rintro e w' ⟨rfl, rfl⟩
  go_wp2_with (fail)
  refine (T5.out _).mono ?_
  rintro e w' ⟨rfl, rfl⟩
  go_wp2_with (fail)
  refine (FI.out _).mono ?_
  rintro e w' ⟨rfl, rfl⟩
  obtain ⟨raw, hraw⟩ : ∃ r, t.extract k t.size = r := ⟨_, rfl⟩
  rw [hraw] at HRR
  obtain ⟨cap, W2, hcv, hcap, hb2, _, hp⟩ := bytes_of W1 raw
  have R := Lib.hid (HRR.out W2 W1.heap.size 0 cap hcap hp)
  have HB2 := Lib.hid hb2
  clear hcap hb2 hp HRR
  go_wp2_with (fail)
  refine R.out.mono ?_
  rintro e w3 ⟨rfl, hb⟩
  have S3 := Lib.hid (S1.out.grew (below_cat HB2.out hb))
  clear hb hcv
  go_wp2_with (fail)
  go_loop [16, 17] (fun r q => (∃ c j : Nat, q = .int .i64 (j : Int) ∧ r = .int .i64 (c : Int) ∧ k ≤ j ∧ j ≤ t.size ∧ c ≤ j ∧ Hid (c + cntF t j t.size = C))) (fun _ q => t.size - (intOf q).toNat)
  case atStart => exact ⟨0, k, rfl, rfl, Nat.le_refl _, HE.out.1, Nat.zero_le _, Lib.hid (by rw [Nat.zero_add]; exact HC.out)⟩
  case round =>
    obtain ⟨c, j, rfl, rfl, hj1, hj2, hcj, HD⟩ := hrel
    have hk2 := HE.out.2
    have ht2 := HK.out.2.1
    have cb : (c : Int) ≤ 4000000 := by omega
    have jb : (j : Int) ≤ 4000000 := by omega
    by_cases hl2 : j < t.size
    · have hl3 : j < t.size := by omega
      have l4 : (j : Int) < (t.size : Int) := by omega
      have l5 : (j : Int) < (t.size : Int) := by omega
      have HS := Lib.hid (cnt_step hl2 hk2)
      obtain ⟨y, hy⟩ : ∃ y : Int, ((t[j]'hl3).toNat : Int) = y := ⟨_, rfl⟩
      by_cases h38 : t.get! j = 38
      · have y38 : y = 38 := by
          rw [← hy, ← idx_get t j hl3, h38]
          rfl
        have HN := Lib.hid (show c + 1 + cntF t (j + 1) t.size = C by
          rw [← HD.out, HS.out, if_pos h38]
          omega)
        subst y38
        clear HS HD h38
        go_wp2_with (fail)
        go_round
        case rel => exact ⟨c + 1, j + 1, by go_num, by go_num, by omega, by omega, by omega, HN⟩
        case measure => simp [intOf]; omega
      · have y38 : ¬ y = 38 := by
          rw [← hy, ← idx_get t j hl3]
          exact u8_ne (by decide) h38
        have y39 : (y == 38) = false := by rw [beq_eq_false_iff_ne]; exact y38
        have HN := Lib.hid (show c + cntF t (j + 1) t.size = C by
          rw [← HD.out, HS.out, if_neg h38]
          omega)
        clear HS HD h38
        go_wp2_with (fail)
        go_round
        case rel => exact ⟨c, j + 1, by go_num, rfl, by omega, by omega, by omega, HN⟩
        case measure => simp [intOf]; omega
    · have hj : j = t.size := by omega
      rw [hj] at HD ⊢
      have hcc : c = C := by
        rw [← HD.out, cnt_end, Nat.add_zero]
      subst hcc
      have l4 : ¬ (t.size : Int) < (t.size : Int) := by omega
      clear HD hj1 hj2 hcj hl2 hj
      obtain ⟨⟨c0, c1, c2, c3, c4, c5⟩, ⟨f0, f1, f2, f3, f4, f5⟩⟩ := six_cells S3.out.out
      go_wp2_with (fail)
      change bodyPost _ _ _ _ _ (setTok w3 w.heap.size 5 0 ⟨#[]⟩ (.slice none 0 0) s (c : Int))
      obtain ⟨w9, hw9⟩ : ∃ W, setTok w3 w.heap.size 5 0 ⟨#[]⟩ (.slice none 0 0) s (c : Int) = W := ⟨_, rfl⟩
      obtain ⟨r9, m9⟩ := setTok_row 5 0 ⟨#[]⟩ (.slice none 0 0) s (c : Int) S3.out.out
      rw [hw9] at r9 m9 ⊢
      obtain ⟨⟨d0, d1, d2, d3, d4, d5⟩, _⟩ := six_cells r9
      refine bodyPost_ret (v := .tuple #[tokV 5 0 ⟨#[]⟩ (.slice none 0 0) s (c : Int), .int .i64 (t.size : Int), .int .i64 0]) ?_ rfl ?_
      · simp [results, Tryz.results17, go_sem, d0, d1, d2, d3, d4, d5]
      · exact ⟨rfl, S3.out.laid m9⟩
set_option maxRecDepth 100000 in
set_option maxHeartbeats 1000000 in
theorem rone_chars_eb_n (t : ByteArray) (k : Nat) (w : World) (ht : t.size ≤ 4000000) (hk : k ≤ t.size) (h0 : ¬ k = 0) (s0 : seesB t k [60, 33, 45, 45] = false) (s1 : seesB t k [60, 33, 91, 67, 68, 65, 84, 65, 91] = false) (s2 : seesB t k [60, 33, 68, 79, 67, 84, 89, 80, 69] = false) (s3 : seesB t k [60, 33] = false) (s4 : seesB t k [60, 63] = false) (s5 : seesB t k [60, 47] = false) (hlt : k < t.size) (s9 : ¬ t.get! k = 60) (hf : findF t k [60] = none) (s : ByteArray) (u : Int) (e0 : Int) (he : e0 ≠ 0) (HR : ∀ (W : World) (b off cap : Nat), (t.extract k t.size).size ≤ cap → (∀ j, j < (t.extract k t.size).size → W.cell? ⟨b, off + j, none⟩ = some (.int .u8 (((t.extract k t.size).get! j).toNat : Int))) → Calls Tryz.prog 34 #[.slice (some ⟨b, off, none⟩) (t.extract k t.size).size cap, .bool false] W fun e w' => e = .returned (.tuple #[.string s, .int .i64 u, .int .i64 e0]) ∧ Below W.heap.size W w') :
    Calls Tryz.prog 17 #[.string t, .int .i64 (k : Int)] w fun e w' => e = .returned (.tuple #[tokV 0 0 ⟨#[]⟩ (.slice none 0 0) ⟨#[]⟩ 0, .int .i64 0, .int .i64 e0]) ∧ Below w.heap.size w w' := by
  have l1 : (k : Int) < (t.size : Int) := by omega
  have l0 : (k : Int) ≤ 4000000 := by omega
  have l3 : (t.size : Int) ≤ 4000000 := by omega
  obtain ⟨x, hx⟩ : ∃ x : Int, ((t[k]'hlt).toNat : Int) = x := ⟨_, rfl⟩
  have g9 : ¬ x = 60 := by
    rw [← hx, ← idx_get t k hlt]
    exact u8_ne (by decide) s9
  have g8 : (x == 60) = false := by rw [beq_eq_false_iff_ne]; exact g9
  have FI := Lib.hid (fun W => refFind_at t ⟨#[60]⟩ (k : Int) k [60] W rfl rfl (by omega) (by omega) (by decide) (by decide))
  have hfz : findZ t k [60] = -1 := by unfold findZ; rw [hf]
  rw [hfz] at FI
  have i3 : (k : Int) ≤ (t.size : Int) := by omega
  clear hfz hf
  have HRR := Lib.hid HR
  have HK := Lib.hid (And.intro hk (And.intro ht hlt))
  clear HR
  have b0 : (e0 == 0) = false := by rw [beq_eq_false_iff_ne]; exact he
  have b1 : (e0 != 0) = true := by rw [bne_iff_ne]; exact he
  have b2 : ¬ e0 = 0 := he
  clear he
  have z0 : ((k : Int) == 0) = false := by rw [beq_eq_false_iff_ne]; omega
  have z1 : ¬ (k : Int) = 0 := by omega
  clear h0
  have T0 := Lib.hid (fun W => refStands_at t ⟨#[60, 33, 45, 45]⟩ (k : Int) k [60, 33, 45, 45] W rfl rfl (by omega) (by omega) (by decide) (by decide))
  rw [s0] at T0
  clear s0
  have T1 := Lib.hid (fun W => refStands_at t ⟨#[60, 33, 91, 67, 68, 65, 84, 65, 91]⟩ (k : Int) k [60, 33, 91, 67, 68, 65, 84, 65, 91] W rfl rfl (by omega) (by omega) (by decide) (by decide))
  rw [s1] at T1
  clear s1
  have T2 := Lib.hid (fun W => refStands_at t ⟨#[60, 33, 68, 79, 67, 84, 89, 80, 69]⟩ (k : Int) k [60, 33, 68, 79, 67, 84, 89, 80, 69] W rfl rfl (by omega) (by omega) (by decide) (by decide))
  rw [s2] at T2
  clear s2
  have T3 := Lib.hid (fun W => refStands_at t ⟨#[60, 33]⟩ (k : Int) k [60, 33] W rfl rfl (by omega) (by omega) (by decide) (by decide))
  rw [s3] at T3
  clear s3
  have T4 := Lib.hid (fun W => refStands_at t ⟨#[60, 63]⟩ (k : Int) k [60, 63] W rfl rfl (by omega) (by omega) (by decide) (by decide))
  rw [s4] at T4
  clear s4
  have T5 := Lib.hid (fun W => refStands_at t ⟨#[60, 47]⟩ (k : Int) k [60, 47] W rfl rfl (by omega) (by omega) (by decide) (by decide))
  rw [s5] at T5
  clear s5
  clear ht hk s9
  go_enter Tryz.func17, Tryz.ntmps17
  go_wp2_with (fail)
  obtain ⟨W1, hW1⟩ : ∃ W, w.alloc TOKR = W := ⟨_, rfl⟩
  rw [hW1]
  have S1 := Lib.hid (RSt.first hW1)
  clear hW1
  go_wp2_with (fail)
  refine (T0.out _).mono ?_
  rintro e w' ⟨rfl, rfl⟩
  go_wp2_with (fail)
  refine (T1.out _).mono ?_
  rintro e w' ⟨rfl, rfl⟩
  go_wp2_with (fail)
  refine (T2.out _).mono ?_
  rintro e w' ⟨rfl, rfl⟩
  go_wp2_with (fail)
  refine (T3.out _).mono ?_
  rintro e w' ⟨rfl, rfl⟩
  go_wp2_with (fail)
  refine (T4.out _).mono ?_
  rintro e w' ⟨rfl, rfl⟩
  go_wp2_with (fail)
  refine (T5.out _).mono ?_
  rintro e w' ⟨rfl, rfl⟩
  go_wp2_with (fail)
  refine (FI.out _).mono ?_
  rintro e w' ⟨rfl, rfl⟩
  obtain ⟨raw, hraw⟩ : ∃ r, t.extract k t.size = r := ⟨_, rfl⟩
  rw [hraw] at HRR
  obtain ⟨cap, W2, hcv, hcap, hb2, _, hp⟩ := bytes_of W1 raw
  have R := Lib.hid (HRR.out W2 W1.heap.size 0 cap hcap hp)
  have HB2 := Lib.hid hb2
  clear hcap hb2 hp HRR
  go_wp2_with (fail)
  refine R.out.mono ?_
  rintro e w3 ⟨rfl, hb⟩
  have S3 := Lib.hid (S1.out.grew (below_cat HB2.out hb))
  clear hb hcv
  obtain ⟨⟨c0, c1, c2, c3, c4, c5⟩, ⟨f0, f1, f2, f3, f4, f5⟩⟩ := six_cells S3.out.out
  go_wp2_with (fail)
  change bodyPost _ _ _ _ _ (setTok w3 w.heap.size 0 0 ⟨#[]⟩ (.slice none 0 0) ⟨#[]⟩ 0)
  obtain ⟨w9, hw9⟩ : ∃ W, setTok w3 w.heap.size 0 0 ⟨#[]⟩ (.slice none 0 0) ⟨#[]⟩ 0 = W := ⟨_, rfl⟩
  obtain ⟨r9, m9⟩ := setTok_row 0 0 ⟨#[]⟩ (.slice none 0 0) ⟨#[]⟩ 0 S3.out.out
  rw [hw9] at r9 m9 ⊢
  obtain ⟨⟨d0, d1, d2, d3, d4, d5⟩, _⟩ := six_cells r9
  refine bodyPost_ret (v := .tuple #[tokV 0 0 ⟨#[]⟩ (.slice none 0 0) ⟨#[]⟩ 0, .int .i64 0, .int .i64 e0]) ?_ rfl ?_
  · simp [results, Tryz.results17, go_sem, d0, d1, d2, d3, d4, d5]
  · exact ⟨rfl, S3.out.laid m9⟩
end Go.Proofs.YtidimpepfkdcmaaGreatDoor
