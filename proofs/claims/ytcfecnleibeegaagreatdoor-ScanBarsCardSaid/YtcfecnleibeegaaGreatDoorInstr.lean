/- Proved here: the reader's instruction: what it reads, where it leaves the reader. -/
import Derived.Test.YtcfecnleibeegaaGreatDoorClosing
import Derived.Test.YtcfecnleibeegaaGreatDoorFold
import Derived.Test.YtcfecnleibeegaaGreatDoorSplitAny
namespace Go.Proofs.YtcfecnleibeegaaGreatDoor
open Go.RowKit

theorem name_post {R b off cap k i : Nat} {t n : ByteArray} {e : Ending} {w' : World} (hq : nameF t k = .ok (n, i)) (h : NamePost R b off cap t (nameF t k) e w') : e = .returned (.tuple #[.string n, .int .i64 0]) ∧ Rd w' R (rv b off cap t) i := by
  rw [hq] at h
  exact h
theorem name_post_no {R b off cap k e0 : Nat} {t : ByteArray} {e : Ending} {w' : World} (hq : nameF t k = .error e0) (h : NamePost R b off cap t (nameF t k) e w') : e = .returned (.tuple #[.string ⟨#[]⟩, .int .i64 (e0 : Int)]) ∧ ∃ j, j ≤ t.size ∧ Rd w' R (rv b off cap t) j := by
  rw [hq] at h
  exact h
set_option maxHeartbeats 1000000 in
theorem instr_name (t : ByteArray) (b off cap R k : Nat) (w0 w : World) (E : Env w0 R b off cap t) (hB : Below w0.heap.size w0 w) (h : Rd w R (rv b off cap t) k) (hk : k ≤ t.size) (hn : nameF t k = .error 23) :
    Calls Tryz.prog 52 #[.pointer (some ⟨R, 0, none⟩)] w fun e w' => e = .returned (.tuple #[tokV 0 0 ⟨#[]⟩ (.slice none 0 0) ⟨#[]⟩ 0, .int .i64 23]) ∧ Moved R w w' := by
  have Q := Lib.hid (fun W g (y : Below w0.heap.size w0 W) => (written_any t b off cap R k w0 W E y g hk).mono fun _ _ z => And.intro (name_post_no hn z.1) z.2)
  have HE := Lib.hid (And.intro E (And.intro hB h))
  clear h E hB hn
  go_enter Tryz.func52, Tryz.ntmps52
  go_wp2_with (fail)
  obtain ⟨W1, hW1⟩ : ∃ W, w.alloc TOK0 = W := ⟨_, rfl⟩
  rw [hW1]
  have S1 := Lib.hid (St.first HE.out.1 HE.out.2.1 HE.out.2.2 hW1)
  clear hW1
  refine (Q.out W1 S1.out.rd S1.out.below).mono ?_
  rintro e w2 ⟨⟨rfl, j, hj, hr⟩, hm⟩
  have S2 := Lib.hid (S1.out.moved hr hm)
  clear hr hm
  obtain ⟨⟨c0, c1, c2, c3, c4, c5⟩, ⟨f0, f1, f2, f3, f4, f5⟩⟩ := six_cells S2.out.out
  go_wp2_with (fail)
  change bodyPost _ _ _ _ _ (setTok w2 w.heap.size 0 0 ⟨#[]⟩ (.slice none 0 0) ⟨#[]⟩ 0)
  obtain ⟨w9, hw9⟩ : ∃ W, setTok w2 w.heap.size 0 0 ⟨#[]⟩ (.slice none 0 0) ⟨#[]⟩ 0 = W := ⟨_, rfl⟩
  obtain ⟨r9, m9⟩ := setTok_row 0 0 ⟨#[]⟩ (.slice none 0 0) ⟨#[]⟩ 0 S2.out.out
  rw [hw9] at r9 m9 ⊢
  obtain ⟨⟨d0, d1, d2, d3, d4, d5⟩, _⟩ := six_cells r9
  refine bodyPost_ret (v := .tuple #[tokV 0 0 ⟨#[]⟩ (.slice none 0 0) ⟨#[]⟩ 0, .int .i64 23]) ?_ rfl ?_
  · rw [results_cell_tmp rfl]
    go_simp
  · obtain ⟨z1, z2⟩ := S2.out.laid m9
    exact ⟨rfl, z2⟩
set_option maxHeartbeats 1000000 in
theorem instr_bad (t : ByteArray) (b off cap R k : Nat) (w0 w : World) (E : Env w0 R b off cap t) (hB : Below w0.heap.size w0 w) (h : Rd w R (rv b off cap t) k) (hk : k ≤ t.size) (n : ByteArray) (i : Nat) (hn : nameF t k = .ok (n, i)) (hnb : nameB n = false) :
    Calls Tryz.prog 52 #[.pointer (some ⟨R, 0, none⟩)] w fun e w' => e = .returned (.tuple #[tokV 0 0 ⟨#[]⟩ (.slice none 0 0) ⟨#[]⟩ 0, .int .i64 24]) ∧ Moved R w w' := by
  have Q := Lib.hid (fun W g (y : Below w0.heap.size w0 W) => (written_any t b off cap R k w0 W E y g hk).mono fun _ _ z => And.intro (name_post hn z.1) z.2)
  have hi := (name_ok hn).2.1
  have hns : n.size ≤ 4194304 := by
    have h1 := E.txt.small
    have h2 := (name_ok hn).2.2.1
    rw [h2]
    simp
    omega
  have NM := Lib.hid (fun W (y : Below w0.heap.size w0 W) => name_any n W (E.tabs.below y) (by omega))
  rw [hnb] at NM
  have HE := Lib.hid (And.intro E (And.intro hB h))
  clear h E hB hn hnb hns
  go_enter Tryz.func52, Tryz.ntmps52
  go_wp2_with (fail)
  obtain ⟨W1, hW1⟩ : ∃ W, w.alloc TOK0 = W := ⟨_, rfl⟩
  rw [hW1]
  have S1 := Lib.hid (St.first HE.out.1 HE.out.2.1 HE.out.2.2 hW1)
  clear hW1
  refine (Q.out W1 S1.out.rd S1.out.below).mono ?_
  rintro e w2 ⟨⟨rfl, hr⟩, hm⟩
  have S2 := Lib.hid (S1.out.moved hr hm)
  clear hr hm
  go_wp2_with (fail)
  refine (NM.out w2 S2.out.below).mono ?_
  rintro e w3 ⟨rfl, hb⟩
  have S3 := Lib.hid (S2.out.grew hb)
  clear hb
  obtain ⟨⟨c0, c1, c2, c3, c4, c5⟩, ⟨f0, f1, f2, f3, f4, f5⟩⟩ := six_cells S3.out.out
  go_wp2_with (fail)
  change bodyPost _ _ _ _ _ (setTok w3 w.heap.size 0 0 ⟨#[]⟩ (.slice none 0 0) ⟨#[]⟩ 0)
  obtain ⟨w9, hw9⟩ : ∃ W, setTok w3 w.heap.size 0 0 ⟨#[]⟩ (.slice none 0 0) ⟨#[]⟩ 0 = W := ⟨_, rfl⟩
  obtain ⟨r9, m9⟩ := setTok_row 0 0 ⟨#[]⟩ (.slice none 0 0) ⟨#[]⟩ 0 S3.out.out
  rw [hw9] at r9 m9 ⊢
  obtain ⟨⟨d0, d1, d2, d3, d4, d5⟩, _⟩ := six_cells r9
  refine bodyPost_ret (v := .tuple #[tokV 0 0 ⟨#[]⟩ (.slice none 0 0) ⟨#[]⟩ 0, .int .i64 24]) ?_ rfl ?_
  · rw [results_cell_tmp rfl]
    go_simp
  · obtain ⟨z1, z2⟩ := S3.out.laid m9
    exact ⟨rfl, z2⟩
set_option maxHeartbeats 1000000 in
theorem instr_xml (t : ByteArray) (b off cap R k : Nat) (w0 w : World) (E : Env w0 R b off cap t) (hB : Below w0.heap.size w0 w) (h : Rd w R (rv b off cap t) k) (hk : k ≤ t.size) (n : ByteArray) (i : Nat) (hn : nameF t k = .ok (n, i)) (hnb : nameB n = true) (hx : xmlB n = true) :
    Calls Tryz.prog 52 #[.pointer (some ⟨R, 0, none⟩)] w fun e w' => e = .returned (.tuple #[tokV 0 0 ⟨#[]⟩ (.slice none 0 0) ⟨#[]⟩ 0, .int .i64 29]) ∧ Moved R w w' := by
  have Q := Lib.hid (fun W g (y : Below w0.heap.size w0 W) => (written_any t b off cap R k w0 W E y g hk).mono fun _ _ z => And.intro (name_post hn z.1) z.2)
  have hi := (name_ok hn).2.1
  have hns : n.size ≤ 4194304 := by
    have h1 := E.txt.small
    have h2 := (name_ok hn).2.2.1
    rw [h2]
    simp
    omega
  have NM := Lib.hid (fun W (y : Below w0.heap.size w0 W) => name_any n W (E.tabs.below y) (by omega))
  rw [hnb] at NM
  have FD := Lib.hid (fun W (y : Below w0.heap.size w0 W) => fold_any n W (E.tabs.below y) (E.fold.below y) hnb hns)
  rw [hx] at FD
  have HE := Lib.hid (And.intro E (And.intro hB h))
  clear h E hB hn hnb hns hx
  go_enter Tryz.func52, Tryz.ntmps52
  go_wp2_with (fail)
  obtain ⟨W1, hW1⟩ : ∃ W, w.alloc TOK0 = W := ⟨_, rfl⟩
  rw [hW1]
  have S1 := Lib.hid (St.first HE.out.1 HE.out.2.1 HE.out.2.2 hW1)
  clear hW1
  refine (Q.out W1 S1.out.rd S1.out.below).mono ?_
  rintro e w2 ⟨⟨rfl, hr⟩, hm⟩
  have S2 := Lib.hid (S1.out.moved hr hm)
  clear hr hm
  go_wp2_with (fail)
  refine (NM.out w2 S2.out.below).mono ?_
  rintro e w3 ⟨rfl, hb⟩
  have S3 := Lib.hid (S2.out.grew hb)
  clear hb
  go_wp2_with (fail)
  refine (FD.out w3 S3.out.below).mono ?_
  rintro e w4 ⟨rfl, hb⟩
  have S4 := Lib.hid (S3.out.grew hb)
  clear hb
  obtain ⟨⟨c0, c1, c2, c3, c4, c5⟩, ⟨f0, f1, f2, f3, f4, f5⟩⟩ := six_cells S4.out.out
  go_wp2_with (fail)
  change bodyPost _ _ _ _ _ (setTok w4 w.heap.size 0 0 ⟨#[]⟩ (.slice none 0 0) ⟨#[]⟩ 0)
  obtain ⟨w9, hw9⟩ : ∃ W, setTok w4 w.heap.size 0 0 ⟨#[]⟩ (.slice none 0 0) ⟨#[]⟩ 0 = W := ⟨_, rfl⟩
  obtain ⟨r9, m9⟩ := setTok_row 0 0 ⟨#[]⟩ (.slice none 0 0) ⟨#[]⟩ 0 S4.out.out
  rw [hw9] at r9 m9 ⊢
  obtain ⟨⟨d0, d1, d2, d3, d4, d5⟩, _⟩ := six_cells r9
  refine bodyPost_ret (v := .tuple #[tokV 0 0 ⟨#[]⟩ (.slice none 0 0) ⟨#[]⟩ 0, .int .i64 29]) ?_ rfl ?_
  · rw [results_cell_tmp rfl]
    go_simp
  · obtain ⟨z1, z2⟩ := S4.out.laid m9
    exact ⟨rfl, z2⟩
set_option maxHeartbeats 1000000 in
theorem instr_gap (t : ByteArray) (b off cap R k : Nat) (w0 w : World) (E : Env w0 R b off cap t) (hB : Below w0.heap.size w0 w) (h : Rd w R (rv b off cap t) k) (hk : k ≤ t.size) (n : ByteArray) (i : Nat) (hn : nameF t k = .ok (n, i)) (hnb : nameB n = true) (hx : xmlB n = false) (hgw : whiteTo t i = i) (hsq : seesB t i [63, 62] = false) :
    Calls Tryz.prog 52 #[.pointer (some ⟨R, 0, none⟩)] w fun e w' => e = .returned (.tuple #[tokV 0 0 ⟨#[]⟩ (.slice none 0 0) ⟨#[]⟩ 0, .int .i64 23]) ∧ Moved R w w' := by
  have Q := Lib.hid (fun W g (y : Below w0.heap.size w0 W) => (written_any t b off cap R k w0 W E y g hk).mono fun _ _ z => And.intro (name_post hn z.1) z.2)
  have hi := (name_ok hn).2.1
  have hns : n.size ≤ 4194304 := by
    have h1 := E.txt.small
    have h2 := (name_ok hn).2.2.1
    rw [h2]
    simp
    omega
  have NM := Lib.hid (fun W (y : Below w0.heap.size w0 W) => name_any n W (E.tabs.below y) (by omega))
  rw [hnb] at NM
  have FD := Lib.hid (fun W (y : Below w0.heap.size w0 W) => fold_any n W (E.tabs.below y) (E.fold.below y) hnb hns)
  rw [hx] at FD
  have BL := Lib.hid (fun W g (y : Txt W b off cap t) => blanks_any t b off cap R i W g hi y E.ne)
  have hw := white_le hi
  have hwg := white_ge t i
  have hgb : decide (i < whiteTo t i) = false := decide_eq_false (by omega)
  rw [hgb] at BL
  clear hgb
  have hsq2 : seesB t (whiteTo t i) [63, 62] = false := by rw [hgw]; exact hsq
  have SE := Lib.hid (fun W g (y : Txt W b off cap t) => sees_any t ⟨#[63, 62]⟩ b off cap R (whiteTo t i) W g hw y.room y.cells)
  rw [show (⟨#[63, 62]⟩ : ByteArray).data.toList = [63, 62] from rfl, hsq2] at SE
  have HE := Lib.hid (And.intro E (And.intro hB h))
  clear h E hB hn hnb hns hx hgw hsq hsq2 hwg
  go_enter Tryz.func52, Tryz.ntmps52
  go_wp2_with (fail)
  obtain ⟨W1, hW1⟩ : ∃ W, w.alloc TOK0 = W := ⟨_, rfl⟩
  rw [hW1]
  have S1 := Lib.hid (St.first HE.out.1 HE.out.2.1 HE.out.2.2 hW1)
  clear hW1
  refine (Q.out W1 S1.out.rd S1.out.below).mono ?_
  rintro e w2 ⟨⟨rfl, hr⟩, hm⟩
  have S2 := Lib.hid (S1.out.moved hr hm)
  clear hr hm
  go_wp2_with (fail)
  refine (NM.out w2 S2.out.below).mono ?_
  rintro e w3 ⟨rfl, hb⟩
  have S3 := Lib.hid (S2.out.grew hb)
  clear hb
  go_wp2_with (fail)
  refine (FD.out w3 S3.out.below).mono ?_
  rintro e w4 ⟨rfl, hb⟩
  have S4 := Lib.hid (S3.out.grew hb)
  clear hb
  go_wp2_with (fail)
  refine (BL.out w4 S4.out.rd S4.out.txt).mono ?_
  rintro e w5 ⟨rfl, hr, hm⟩
  have S5 := Lib.hid (S4.out.moved hr hm)
  clear hr hm
  go_wp2_with (fail)
  refine (SE.out w5 (S5.out.rd) S5.out.txt).mono ?_
  rintro e w6 ⟨rfl, hb⟩
  have S6 := Lib.hid (S5.out.grew hb)
  clear hb
  obtain ⟨⟨c0, c1, c2, c3, c4, c5⟩, ⟨f0, f1, f2, f3, f4, f5⟩⟩ := six_cells S6.out.out
  go_wp2_with (fail)
  change bodyPost _ _ _ _ _ (setTok w6 w.heap.size 0 0 ⟨#[]⟩ (.slice none 0 0) ⟨#[]⟩ 0)
  obtain ⟨w9, hw9⟩ : ∃ W, setTok w6 w.heap.size 0 0 ⟨#[]⟩ (.slice none 0 0) ⟨#[]⟩ 0 = W := ⟨_, rfl⟩
  obtain ⟨r9, m9⟩ := setTok_row 0 0 ⟨#[]⟩ (.slice none 0 0) ⟨#[]⟩ 0 S6.out.out
  rw [hw9] at r9 m9 ⊢
  obtain ⟨⟨d0, d1, d2, d3, d4, d5⟩, _⟩ := six_cells r9
  refine bodyPost_ret (v := .tuple #[tokV 0 0 ⟨#[]⟩ (.slice none 0 0) ⟨#[]⟩ 0, .int .i64 23]) ?_ rfl ?_
  · rw [results_cell_tmp rfl]
    go_simp
  · obtain ⟨z1, z2⟩ := S6.out.laid m9
    exact ⟨rfl, z2⟩
set_option maxHeartbeats 1000000 in
theorem instr_open_a (t : ByteArray) (b off cap R k : Nat) (w0 w : World) (E : Env w0 R b off cap t) (hB : Below w0.heap.size w0 w) (h : Rd w R (rv b off cap t) k) (hk : k ≤ t.size) (n : ByteArray) (i : Nat) (hn : nameF t k = .ok (n, i)) (hnb : nameB n = true) (hx : xmlB n = false) (hgw : whiteTo t i = i) (hsq : seesB t i [63, 62] = true) (hf : findF t (whiteTo t i) [63, 62] = none) :
    Calls Tryz.prog 52 #[.pointer (some ⟨R, 0, none⟩)] w fun e w' => e = .returned (.tuple #[tokV 0 0 ⟨#[]⟩ (.slice none 0 0) ⟨#[]⟩ 0, .int .i64 23]) ∧ Moved R w w' := by
  have Q := Lib.hid (fun W g (y : Below w0.heap.size w0 W) => (written_any t b off cap R k w0 W E y g hk).mono fun _ _ z => And.intro (name_post hn z.1) z.2)
  have hi := (name_ok hn).2.1
  have hns : n.size ≤ 4194304 := by
    have h1 := E.txt.small
    have h2 := (name_ok hn).2.2.1
    rw [h2]
    simp
    omega
  have NM := Lib.hid (fun W (y : Below w0.heap.size w0 W) => name_any n W (E.tabs.below y) (by omega))
  rw [hnb] at NM
  have FD := Lib.hid (fun W (y : Below w0.heap.size w0 W) => fold_any n W (E.tabs.below y) (E.fold.below y) hnb hns)
  rw [hx] at FD
  have BL := Lib.hid (fun W g (y : Txt W b off cap t) => blanks_any t b off cap R i W g hi y E.ne)
  have hw := white_le hi
  have hwg := white_ge t i
  have hgb : decide (i < whiteTo t i) = false := decide_eq_false (by omega)
  rw [hgb] at BL
  clear hgb
  have hsq2 : seesB t (whiteTo t i) [63, 62] = true := by rw [hgw]; exact hsq
  have SE := Lib.hid (fun W g (y : Txt W b off cap t) => sees_any t ⟨#[63, 62]⟩ b off cap R (whiteTo t i) W g hw y.room y.cells)
  rw [show (⟨#[63, 62]⟩ : ByteArray).data.toList = [63, 62] from rfl, hsq2] at SE
  have U := Lib.hid (fun W g (y : Below w0.heap.size w0 W) => upTo_no t ⟨#[63, 62]⟩ b off cap R (whiteTo t i) w0 W E y g hw (by decide) (by decide) hf)
  have HE := Lib.hid (And.intro E (And.intro hB h))
  clear h E hB hn hnb hns hx hgw hsq hsq2 hwg hf
  go_enter Tryz.func52, Tryz.ntmps52
  go_wp2_with (fail)
  obtain ⟨W1, hW1⟩ : ∃ W, w.alloc TOK0 = W := ⟨_, rfl⟩
  rw [hW1]
  have S1 := Lib.hid (St.first HE.out.1 HE.out.2.1 HE.out.2.2 hW1)
  clear hW1
  refine (Q.out W1 S1.out.rd S1.out.below).mono ?_
  rintro e w2 ⟨⟨rfl, hr⟩, hm⟩
  have S2 := Lib.hid (S1.out.moved hr hm)
  clear hr hm
  go_wp2_with (fail)
  refine (NM.out w2 S2.out.below).mono ?_
  rintro e w3 ⟨rfl, hb⟩
  have S3 := Lib.hid (S2.out.grew hb)
  clear hb
  go_wp2_with (fail)
  refine (FD.out w3 S3.out.below).mono ?_
  rintro e w4 ⟨rfl, hb⟩
  have S4 := Lib.hid (S3.out.grew hb)
  clear hb
  go_wp2_with (fail)
  refine (BL.out w4 S4.out.rd S4.out.txt).mono ?_
  rintro e w5 ⟨rfl, hr, hm⟩
  have S5 := Lib.hid (S4.out.moved hr hm)
  clear hr hm
  go_wp2_with (fail)
  refine (SE.out w5 (S5.out.rd) S5.out.txt).mono ?_
  rintro e w6 ⟨rfl, hb⟩
  have S6 := Lib.hid (S5.out.grew hb)
  clear hb
  go_wp2_with (fail)
  refine (U.out w6 S6.out.rd S6.out.below).mono ?_
  rintro e w7 ⟨⟨q, n4, c, rfl⟩, hr, hm⟩
  have S7 := Lib.hid (S6.out.moved hr hm)
  clear hr hm
  obtain ⟨⟨c0, c1, c2, c3, c4, c5⟩, ⟨f0, f1, f2, f3, f4, f5⟩⟩ := six_cells S7.out.out
  go_wp2_with (fail)
  change bodyPost _ _ _ _ _ (setTok w7 w.heap.size 0 0 ⟨#[]⟩ (.slice none 0 0) ⟨#[]⟩ 0)
  obtain ⟨w9, hw9⟩ : ∃ W, setTok w7 w.heap.size 0 0 ⟨#[]⟩ (.slice none 0 0) ⟨#[]⟩ 0 = W := ⟨_, rfl⟩
  obtain ⟨r9, m9⟩ := setTok_row 0 0 ⟨#[]⟩ (.slice none 0 0) ⟨#[]⟩ 0 S7.out.out
  rw [hw9] at r9 m9 ⊢
  obtain ⟨⟨d0, d1, d2, d3, d4, d5⟩, _⟩ := six_cells r9
  refine bodyPost_ret (v := .tuple #[tokV 0 0 ⟨#[]⟩ (.slice none 0 0) ⟨#[]⟩ 0, .int .i64 23]) ?_ rfl ?_
  · rw [results_cell_tmp rfl]
    go_simp
  · obtain ⟨z1, z2⟩ := S7.out.laid m9
    exact ⟨rfl, z2⟩
set_option maxHeartbeats 1000000 in
theorem instr_good_a (t : ByteArray) (b off cap R k : Nat) (w0 w : World) (E : Env w0 R b off cap t) (hB : Below w0.heap.size w0 w) (h : Rd w R (rv b off cap t) k) (hk : k ≤ t.size) (n : ByteArray) (i : Nat) (hn : nameF t k = .ok (n, i)) (hnb : nameB n = true) (hx : xmlB n = false) (hgw : whiteTo t i = i) (hsq : seesB t i [63, 62] = true) (m : Nat) (hf : findF t (whiteTo t i) [63, 62] = some m) :
    Calls Tryz.prog 52 #[.pointer (some ⟨R, 0, none⟩)] w fun e w' => e = .returned (.tuple #[tokV 8 0 n (.slice none 0 0) (t.extract (whiteTo t i) m) 0, .int .i64 0]) ∧ Rd w' R (rv b off cap t) (m + 2) ∧ Moved R w w' := by
  have Q := Lib.hid (fun W g (y : Below w0.heap.size w0 W) => (written_any t b off cap R k w0 W E y g hk).mono fun _ _ z => And.intro (name_post hn z.1) z.2)
  have hi := (name_ok hn).2.1
  have hns : n.size ≤ 4194304 := by
    have h1 := E.txt.small
    have h2 := (name_ok hn).2.2.1
    rw [h2]
    simp
    omega
  have NM := Lib.hid (fun W (y : Below w0.heap.size w0 W) => name_any n W (E.tabs.below y) (by omega))
  rw [hnb] at NM
  have FD := Lib.hid (fun W (y : Below w0.heap.size w0 W) => fold_any n W (E.tabs.below y) (E.fold.below y) hnb hns)
  rw [hx] at FD
  have BL := Lib.hid (fun W g (y : Txt W b off cap t) => blanks_any t b off cap R i W g hi y E.ne)
  have hw := white_le hi
  have hwg := white_ge t i
  have hgb : decide (i < whiteTo t i) = false := decide_eq_false (by omega)
  rw [hgb] at BL
  clear hgb
  have hsq2 : seesB t (whiteTo t i) [63, 62] = true := by rw [hgw]; exact hsq
  have SE := Lib.hid (fun W g (y : Txt W b off cap t) => sees_any t ⟨#[63, 62]⟩ b off cap R (whiteTo t i) W g hw y.room y.cells)
  rw [show (⟨#[63, 62]⟩ : ByteArray).data.toList = [63, 62] from rfl, hsq2] at SE
  have U := Lib.hid (fun W g (y : Below w0.heap.size w0 W) => upTo_yes t ⟨#[63, 62]⟩ b off cap R (whiteTo t i) m w0 W E y g hw (by decide) (by decide) hf)
  have hsz : (t.extract (whiteTo t i) m).size = m - whiteTo t i := by
    obtain ⟨_, _, g3⟩ := find_some hw hf
    simp only [List.length_cons, List.length_nil] at g3
    simp
    omega
  have HE := Lib.hid (And.intro E (And.intro hB h))
  clear h E hB hn hnb hns hx hgw hsq hsq2 hwg hf
  go_enter Tryz.func52, Tryz.ntmps52
  go_wp2_with (fail)
  obtain ⟨W1, hW1⟩ : ∃ W, w.alloc TOK0 = W := ⟨_, rfl⟩
  rw [hW1]
  have S1 := Lib.hid (St.first HE.out.1 HE.out.2.1 HE.out.2.2 hW1)
  clear hW1
  refine (Q.out W1 S1.out.rd S1.out.below).mono ?_
  rintro e w2 ⟨⟨rfl, hr⟩, hm⟩
  have S2 := Lib.hid (S1.out.moved hr hm)
  clear hr hm
  go_wp2_with (fail)
  refine (NM.out w2 S2.out.below).mono ?_
  rintro e w3 ⟨rfl, hb⟩
  have S3 := Lib.hid (S2.out.grew hb)
  clear hb
  go_wp2_with (fail)
  refine (FD.out w3 S3.out.below).mono ?_
  rintro e w4 ⟨rfl, hb⟩
  have S4 := Lib.hid (S3.out.grew hb)
  clear hb
  go_wp2_with (fail)
  refine (BL.out w4 S4.out.rd S4.out.txt).mono ?_
  rintro e w5 ⟨rfl, hr, hm⟩
  have S5 := Lib.hid (S4.out.moved hr hm)
  clear hr hm
  go_wp2_with (fail)
  refine (SE.out w5 (S5.out.rd) S5.out.txt).mono ?_
  rintro e w6 ⟨rfl, hb⟩
  have S6 := Lib.hid (S5.out.grew hb)
  clear hb
  go_wp2_with (fail)
  refine (U.out w6 S6.out.rd S6.out.below).mono ?_
  rintro e w7 ⟨⟨q, c, rfl, q1, q2, q3⟩, hr, hm⟩
  have S7 := Lib.hid (S6.out.moved hr hm)
  clear hr hm
  have hcv := conv_str q1 c (fun e => absurd e q3)
  rw [hsz] at hcv
  clear q1 q2 q3
  obtain ⟨⟨c0, c1, c2, c3, c4, c5⟩, ⟨f0, f1, f2, f3, f4, f5⟩⟩ := six_cells S7.out.out
  go_wp2_with (fail)
  change bodyPost _ _ _ _ _ (setTok w7 w.heap.size 8 0 n (.slice none 0 0) (t.extract (whiteTo t i) m) 0)
  obtain ⟨w9, hw9⟩ : ∃ W, setTok w7 w.heap.size 8 0 n (.slice none 0 0) (t.extract (whiteTo t i) m) 0 = W := ⟨_, rfl⟩
  obtain ⟨r9, m9⟩ := setTok_row 8 0 n (.slice none 0 0) (t.extract (whiteTo t i) m) 0 S7.out.out
  rw [hw9] at r9 m9 ⊢
  obtain ⟨⟨d0, d1, d2, d3, d4, d5⟩, _⟩ := six_cells r9
  refine bodyPost_ret (v := .tuple #[tokV 8 0 n (.slice none 0 0) (t.extract (whiteTo t i) m) 0, .int .i64 0]) ?_ rfl ?_
  · rw [results_cell_tmp rfl]
    go_simp
  · obtain ⟨z1, z2⟩ := S7.out.laid m9
    exact ⟨rfl, z1, z2⟩
set_option maxHeartbeats 1000000 in
theorem instr_open_b (t : ByteArray) (b off cap R k : Nat) (w0 w : World) (E : Env w0 R b off cap t) (hB : Below w0.heap.size w0 w) (h : Rd w R (rv b off cap t) k) (hk : k ≤ t.size) (n : ByteArray) (i : Nat) (hn : nameF t k = .ok (n, i)) (hnb : nameB n = true) (hx : xmlB n = false) (hgw : ¬ whiteTo t i = i) (hf : findF t (whiteTo t i) [63, 62] = none) :
    Calls Tryz.prog 52 #[.pointer (some ⟨R, 0, none⟩)] w fun e w' => e = .returned (.tuple #[tokV 0 0 ⟨#[]⟩ (.slice none 0 0) ⟨#[]⟩ 0, .int .i64 23]) ∧ Moved R w w' := by
  have Q := Lib.hid (fun W g (y : Below w0.heap.size w0 W) => (written_any t b off cap R k w0 W E y g hk).mono fun _ _ z => And.intro (name_post hn z.1) z.2)
  have hi := (name_ok hn).2.1
  have hns : n.size ≤ 4194304 := by
    have h1 := E.txt.small
    have h2 := (name_ok hn).2.2.1
    rw [h2]
    simp
    omega
  have NM := Lib.hid (fun W (y : Below w0.heap.size w0 W) => name_any n W (E.tabs.below y) (by omega))
  rw [hnb] at NM
  have FD := Lib.hid (fun W (y : Below w0.heap.size w0 W) => fold_any n W (E.tabs.below y) (E.fold.below y) hnb hns)
  rw [hx] at FD
  have BL := Lib.hid (fun W g (y : Txt W b off cap t) => blanks_any t b off cap R i W g hi y E.ne)
  have hw := white_le hi
  have hwg := white_ge t i
  have hgb : decide (i < whiteTo t i) = true := decide_eq_true (by omega)
  rw [hgb] at BL
  clear hgb
  have U := Lib.hid (fun W g (y : Below w0.heap.size w0 W) => upTo_no t ⟨#[63, 62]⟩ b off cap R (whiteTo t i) w0 W E y g hw (by decide) (by decide) hf)
  have HE := Lib.hid (And.intro E (And.intro hB h))
  clear h E hB hn hnb hns hx hgw hwg hf
  go_enter Tryz.func52, Tryz.ntmps52
  go_wp2_with (fail)
  obtain ⟨W1, hW1⟩ : ∃ W, w.alloc TOK0 = W := ⟨_, rfl⟩
  rw [hW1]
  have S1 := Lib.hid (St.first HE.out.1 HE.out.2.1 HE.out.2.2 hW1)
  clear hW1
  refine (Q.out W1 S1.out.rd S1.out.below).mono ?_
  rintro e w2 ⟨⟨rfl, hr⟩, hm⟩
  have S2 := Lib.hid (S1.out.moved hr hm)
  clear hr hm
  go_wp2_with (fail)
  refine (NM.out w2 S2.out.below).mono ?_
  rintro e w3 ⟨rfl, hb⟩
  have S3 := Lib.hid (S2.out.grew hb)
  clear hb
  go_wp2_with (fail)
  refine (FD.out w3 S3.out.below).mono ?_
  rintro e w4 ⟨rfl, hb⟩
  have S4 := Lib.hid (S3.out.grew hb)
  clear hb
  go_wp2_with (fail)
  refine (BL.out w4 S4.out.rd S4.out.txt).mono ?_
  rintro e w5 ⟨rfl, hr, hm⟩
  have S5 := Lib.hid (S4.out.moved hr hm)
  clear hr hm
  go_wp2_with (fail)
  refine (U.out w5 S5.out.rd S5.out.below).mono ?_
  rintro e w6 ⟨⟨q, n4, c, rfl⟩, hr, hm⟩
  have S6 := Lib.hid (S5.out.moved hr hm)
  clear hr hm
  obtain ⟨⟨c0, c1, c2, c3, c4, c5⟩, ⟨f0, f1, f2, f3, f4, f5⟩⟩ := six_cells S6.out.out
  go_wp2_with (fail)
  change bodyPost _ _ _ _ _ (setTok w6 w.heap.size 0 0 ⟨#[]⟩ (.slice none 0 0) ⟨#[]⟩ 0)
  obtain ⟨w9, hw9⟩ : ∃ W, setTok w6 w.heap.size 0 0 ⟨#[]⟩ (.slice none 0 0) ⟨#[]⟩ 0 = W := ⟨_, rfl⟩
  obtain ⟨r9, m9⟩ := setTok_row 0 0 ⟨#[]⟩ (.slice none 0 0) ⟨#[]⟩ 0 S6.out.out
  rw [hw9] at r9 m9 ⊢
  obtain ⟨⟨d0, d1, d2, d3, d4, d5⟩, _⟩ := six_cells r9
  refine bodyPost_ret (v := .tuple #[tokV 0 0 ⟨#[]⟩ (.slice none 0 0) ⟨#[]⟩ 0, .int .i64 23]) ?_ rfl ?_
  · rw [results_cell_tmp rfl]
    go_simp
  · obtain ⟨z1, z2⟩ := S6.out.laid m9
    exact ⟨rfl, z2⟩
set_option maxHeartbeats 1000000 in
theorem instr_good_b (t : ByteArray) (b off cap R k : Nat) (w0 w : World) (E : Env w0 R b off cap t) (hB : Below w0.heap.size w0 w) (h : Rd w R (rv b off cap t) k) (hk : k ≤ t.size) (n : ByteArray) (i : Nat) (hn : nameF t k = .ok (n, i)) (hnb : nameB n = true) (hx : xmlB n = false) (hgw : ¬ whiteTo t i = i) (m : Nat) (hf : findF t (whiteTo t i) [63, 62] = some m) :
    Calls Tryz.prog 52 #[.pointer (some ⟨R, 0, none⟩)] w fun e w' => e = .returned (.tuple #[tokV 8 0 n (.slice none 0 0) (t.extract (whiteTo t i) m) 0, .int .i64 0]) ∧ Rd w' R (rv b off cap t) (m + 2) ∧ Moved R w w' := by
  have Q := Lib.hid (fun W g (y : Below w0.heap.size w0 W) => (written_any t b off cap R k w0 W E y g hk).mono fun _ _ z => And.intro (name_post hn z.1) z.2)
  have hi := (name_ok hn).2.1
  have hns : n.size ≤ 4194304 := by
    have h1 := E.txt.small
    have h2 := (name_ok hn).2.2.1
    rw [h2]
    simp
    omega
  have NM := Lib.hid (fun W (y : Below w0.heap.size w0 W) => name_any n W (E.tabs.below y) (by omega))
  rw [hnb] at NM
  have FD := Lib.hid (fun W (y : Below w0.heap.size w0 W) => fold_any n W (E.tabs.below y) (E.fold.below y) hnb hns)
  rw [hx] at FD
  have BL := Lib.hid (fun W g (y : Txt W b off cap t) => blanks_any t b off cap R i W g hi y E.ne)
  have hw := white_le hi
  have hwg := white_ge t i
  have hgb : decide (i < whiteTo t i) = true := decide_eq_true (by omega)
  rw [hgb] at BL
  clear hgb
  have U := Lib.hid (fun W g (y : Below w0.heap.size w0 W) => upTo_yes t ⟨#[63, 62]⟩ b off cap R (whiteTo t i) m w0 W E y g hw (by decide) (by decide) hf)
  have hsz : (t.extract (whiteTo t i) m).size = m - whiteTo t i := by
    obtain ⟨_, _, g3⟩ := find_some hw hf
    simp only [List.length_cons, List.length_nil] at g3
    simp
    omega
  have HE := Lib.hid (And.intro E (And.intro hB h))
  clear h E hB hn hnb hns hx hgw hwg hf
  go_enter Tryz.func52, Tryz.ntmps52
  go_wp2_with (fail)
  obtain ⟨W1, hW1⟩ : ∃ W, w.alloc TOK0 = W := ⟨_, rfl⟩
  rw [hW1]
  have S1 := Lib.hid (St.first HE.out.1 HE.out.2.1 HE.out.2.2 hW1)
  clear hW1
  refine (Q.out W1 S1.out.rd S1.out.below).mono ?_
  rintro e w2 ⟨⟨rfl, hr⟩, hm⟩
  have S2 := Lib.hid (S1.out.moved hr hm)
  clear hr hm
  go_wp2_with (fail)
  refine (NM.out w2 S2.out.below).mono ?_
  rintro e w3 ⟨rfl, hb⟩
  have S3 := Lib.hid (S2.out.grew hb)
  clear hb
  go_wp2_with (fail)
  refine (FD.out w3 S3.out.below).mono ?_
  rintro e w4 ⟨rfl, hb⟩
  have S4 := Lib.hid (S3.out.grew hb)
  clear hb
  go_wp2_with (fail)
  refine (BL.out w4 S4.out.rd S4.out.txt).mono ?_
  rintro e w5 ⟨rfl, hr, hm⟩
  have S5 := Lib.hid (S4.out.moved hr hm)
  clear hr hm
  go_wp2_with (fail)
  refine (U.out w5 S5.out.rd S5.out.below).mono ?_
  rintro e w6 ⟨⟨q, c, rfl, q1, q2, q3⟩, hr, hm⟩
  have S6 := Lib.hid (S5.out.moved hr hm)
  clear hr hm
  have hcv := conv_str q1 c (fun e => absurd e q3)
  rw [hsz] at hcv
  clear q1 q2 q3
  obtain ⟨⟨c0, c1, c2, c3, c4, c5⟩, ⟨f0, f1, f2, f3, f4, f5⟩⟩ := six_cells S6.out.out
  go_wp2_with (fail)
  change bodyPost _ _ _ _ _ (setTok w6 w.heap.size 8 0 n (.slice none 0 0) (t.extract (whiteTo t i) m) 0)
  obtain ⟨w9, hw9⟩ : ∃ W, setTok w6 w.heap.size 8 0 n (.slice none 0 0) (t.extract (whiteTo t i) m) 0 = W := ⟨_, rfl⟩
  obtain ⟨r9, m9⟩ := setTok_row 8 0 n (.slice none 0 0) (t.extract (whiteTo t i) m) 0 S6.out.out
  rw [hw9] at r9 m9 ⊢
  obtain ⟨⟨d0, d1, d2, d3, d4, d5⟩, _⟩ := six_cells r9
  refine bodyPost_ret (v := .tuple #[tokV 8 0 n (.slice none 0 0) (t.extract (whiteTo t i) m) 0, .int .i64 0]) ?_ rfl ?_
  · rw [results_cell_tmp rfl]
    go_simp
  · obtain ⟨z1, z2⟩ := S6.out.laid m9
    exact ⟨rfl, z1, z2⟩
theorem instr_any (t : ByteArray) (b off cap R k : Nat) (w0 w : World) (E : Env w0 R b off cap t) (hB : Below w0.heap.size w0 w) (h : Rd w R (rv b off cap t) k) (hk : k ≤ t.size) :
    Calls Tryz.prog 52 #[.pointer (some ⟨R, 0, none⟩)] w fun e w' => TokPost R b off cap t w (instrF t k) e w' ∧ Moved R w w' := by
  unfold instrF
  cases hn : nameF t k with
  | error e0 =>
    have := name_err hn
    subst this
    exact (instr_name t b off cap R k w0 w E hB h hk hn).mono fun _ _ z => z
  | ok p =>
    obtain ⟨n, i⟩ := p
    simp only
    cases hnb : nameB n
    · exact (instr_bad t b off cap R k w0 w E hB h hk n i hn hnb).mono fun _ _ z => z
    · rw [if_neg (by simp)]
      cases hx : xmlB n
      · rw [if_neg (by simp)]
        by_cases hgw : whiteTo t i = i
        · cases hsq : seesB t i [63, 62]
          · rw [if_pos ⟨hgw, rfl⟩]
            exact (instr_gap t b off cap R k w0 w E hB h hk n i hn hnb hx hgw hsq).mono fun _ _ z => z
          · rw [if_neg (by simp)]
            cases hf : findF t (whiteTo t i) [63, 62] with
            | none => exact (instr_open_a t b off cap R k w0 w E hB h hk n i hn hnb hx hgw hsq hf).mono fun _ _ z => z
            | some m => exact (instr_good_a t b off cap R k w0 w E hB h hk n i hn hnb hx hgw hsq m hf).mono fun _ _ z => ⟨TokPost.plain z.1 z.2.1, z.2.2⟩
        · rw [if_neg (fun g => hgw g.1)]
          cases hf : findF t (whiteTo t i) [63, 62] with
          | none => exact (instr_open_b t b off cap R k w0 w E hB h hk n i hn hnb hx hgw hf).mono fun _ _ z => z
          | some m => exact (instr_good_b t b off cap R k w0 w E hB h hk n i hn hnb hx hgw m hf).mono fun _ _ z => ⟨TokPost.plain z.1 z.2.1, z.2.2⟩
      · rw [if_pos rfl]
        exact (instr_xml t b off cap R k w0 w E hB h hk n i hn hnb hx).mono fun _ _ z => z
end Go.Proofs.YtcfecnleibeegaaGreatDoor
