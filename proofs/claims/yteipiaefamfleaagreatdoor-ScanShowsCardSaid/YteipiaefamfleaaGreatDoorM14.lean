/- Proved here: the reader's property at its three words: what it reads, where it leaves the reader. -/
import Derived.Test.YteipiaefamfleaaGreatDoorM13
import Derived.Test.YteipiaefamfleaaGreatDoorM9
import Derived.Test.YteipiaefamfleaaGreatDoorM1
import Derived.Deep.CutRange
namespace Go.Proofs.YteipiaefamfleaaGreatDoor
open Go.RowKit

def PropPost (R b off cap k : Nat) (t : ByteArray) (r : Option ((ByteArray × ByteArray) × Nat)) (e : Ending) (w' : World) : Prop := match r with
  | some (p, i) => e = .returned (.tuple #[.agg #[.string p.1, .string p.2], .bool true]) ∧ Rd w' R (rv b off cap t) i
  | none => e = .returned (.tuple #[.agg #[.string ⟨#[]⟩, .string ⟨#[]⟩], .bool false]) ∧ Rd w' R (rv b off cap t) k
set_option maxHeartbeats 2000000 in
set_option maxRecDepth 100000 in
theorem version_p1 (t : ByteArray) (b off cap R k : Nat) (w0 w : World) (E : Env w0 R b off cap t) (hB : Below w0.heap.size w0 w) (h : Rd w R (rv b off cap t) k) (hk : k ≤ t.size) (hw : whiteTo t k = k) :
    Calls Tryz.prog 39 #[.pointer (some ⟨R, 0, none⟩), .string ⟨#[118, 101, 114, 115, 105, 111, 110]⟩, .func (.func 40) #[] #[]] w fun e w' => e = .returned (.tuple #[.agg #[.string ⟨#[]⟩, .string ⟨#[]⟩], .bool false]) ∧ Rd w' R (rv b off cap t) k ∧ Moved R w w' := by
  have BL := Lib.hid (fun W g (y : Txt W b off cap t) => blanks_any t b off cap R k W g hk y E.ne)
  have hgb : decide (k < whiteTo t k) = false := decide_eq_false (by omega)
  rw [hgb] at BL
  clear hgb hw
  have HE := Lib.hid (And.intro E (And.intro hB h))
  clear h E hB hk
  go_enter Tryz.func39, Tryz.ntmps39
  go_upto_region 1 with fail
  obtain ⟨W1, hW1⟩ : ∃ W, w.alloc PAIR0 = W := ⟨_, rfl⟩
  rw [hW1]
  have S1 := Lib.hid (St.first HE.out.1 HE.out.2.1 HE.out.2.2 hW1)
  clear hW1
  have p1 := S1.out.rd.place
  go_wp2_with (fail)
  refine (BL.out W1 S1.out.rd S1.out.txt).mono ?_
  rintro e w2 ⟨rfl, hr, hm⟩
  clear p1
  have S2 := Lib.hid (S1.out.moved hr hm)
  clear hr hm
  have hr := S2.out.rd
  have p2 := hr.place
  have pf := hr.free
  have hset := hr.set k
  have S8 := Lib.hid (S2.out.moved hset.1 hset.2)
  clear hset hr
  go_upto_region 7 with fail
  obtain ⟨w8, hw8⟩ : ∃ W, w2.setCell ⟨R, 1, none⟩ (.int .i64 (k : Int)) = W := ⟨_, rfl⟩
  rw [hw8] at S8 ⊢
  clear hw8 p2 pf
  obtain ⟨⟨c0, c1⟩, ⟨f0, f1⟩⟩ := two_cells S8.out.out
  go_wp2_with (fail)
  change bodyPost _ _ _ _ _ (setPair w8 w.heap.size ⟨#[]⟩ ⟨#[]⟩)
  obtain ⟨w9, hw9⟩ : ∃ W, setPair w8 w.heap.size ⟨#[]⟩ ⟨#[]⟩ = W := ⟨_, rfl⟩
  obtain ⟨r9, m9⟩ := setPair_row ⟨#[]⟩ ⟨#[]⟩ S8.out.out
  rw [hw9] at r9 m9 ⊢
  obtain ⟨⟨d0, d1⟩, _⟩ := two_cells r9
  refine bodyPost_ret (v := .tuple #[.agg #[.string ⟨#[]⟩, .string ⟨#[]⟩], .bool false]) ?_ rfl ?_
  · rw [results_cell_tmp rfl]
    go_simp
  · obtain ⟨z1, z2⟩ := S8.out.laid m9
    exact ⟨rfl, z1, z2⟩
set_option maxHeartbeats 2000000 in
set_option maxRecDepth 100000 in
theorem version_p2 (t : ByteArray) (b off cap R k : Nat) (w0 w : World) (E : Env w0 R b off cap t) (hB : Below w0.heap.size w0 w) (h : Rd w R (rv b off cap t) k) (hk : k ≤ t.size) (hw : ¬ whiteTo t k = k) (hs : seesB t (whiteTo t k) [118, 101, 114, 115, 105, 111, 110] = false) :
    Calls Tryz.prog 39 #[.pointer (some ⟨R, 0, none⟩), .string ⟨#[118, 101, 114, 115, 105, 111, 110]⟩, .func (.func 40) #[] #[]] w fun e w' => e = .returned (.tuple #[.agg #[.string ⟨#[]⟩, .string ⟨#[]⟩], .bool false]) ∧ Rd w' R (rv b off cap t) k ∧ Moved R w w' := by
  have hwl := white_le hk
  have hwg := white_ge t k
  have BL := Lib.hid (fun W g (y : Txt W b off cap t) => blanks_any t b off cap R k W g hk y E.ne)
  have hgb : decide (k < whiteTo t k) = true := decide_eq_true (by omega)
  rw [hgb] at BL
  clear hgb hw
  have TK := Lib.hid (fun W g (y : Txt W b off cap t) => take_no t ⟨#[118, 101, 114, 115, 105, 111, 110]⟩ b off cap R (whiteTo t k) W g hwl y hs)
  have HE := Lib.hid (And.intro E (And.intro hB h))
  clear h E hB hk hs hwg
  go_enter Tryz.func39, Tryz.ntmps39
  go_upto_region 1 with fail
  obtain ⟨W1, hW1⟩ : ∃ W, w.alloc PAIR0 = W := ⟨_, rfl⟩
  rw [hW1]
  have S1 := Lib.hid (St.first HE.out.1 HE.out.2.1 HE.out.2.2 hW1)
  clear hW1
  have p1 := S1.out.rd.place
  go_wp2_with (fail)
  refine (BL.out W1 S1.out.rd S1.out.txt).mono ?_
  rintro e w2 ⟨rfl, hr, hm⟩
  clear p1
  have S2 := Lib.hid (S1.out.moved hr hm)
  clear hr hm
  go_wp2_with (fail)
  refine (TK.out w2 S2.out.rd S2.out.txt).mono ?_
  rintro e w3 ⟨rfl, hr, hm⟩
  have S3 := Lib.hid (S2.out.moved hr hm)
  clear hr hm
  have hr := S3.out.rd
  have p2 := hr.place
  have pf := hr.free
  have hset := hr.set k
  have S8 := Lib.hid (S3.out.moved hset.1 hset.2)
  clear hset hr
  go_upto_region 7 with fail
  obtain ⟨w8, hw8⟩ : ∃ W, w3.setCell ⟨R, 1, none⟩ (.int .i64 (k : Int)) = W := ⟨_, rfl⟩
  rw [hw8] at S8 ⊢
  clear hw8 p2 pf
  obtain ⟨⟨c0, c1⟩, ⟨f0, f1⟩⟩ := two_cells S8.out.out
  go_wp2_with (fail)
  change bodyPost _ _ _ _ _ (setPair w8 w.heap.size ⟨#[]⟩ ⟨#[]⟩)
  obtain ⟨w9, hw9⟩ : ∃ W, setPair w8 w.heap.size ⟨#[]⟩ ⟨#[]⟩ = W := ⟨_, rfl⟩
  obtain ⟨r9, m9⟩ := setPair_row ⟨#[]⟩ ⟨#[]⟩ S8.out.out
  rw [hw9] at r9 m9 ⊢
  obtain ⟨⟨d0, d1⟩, _⟩ := two_cells r9
  refine bodyPost_ret (v := .tuple #[.agg #[.string ⟨#[]⟩, .string ⟨#[]⟩], .bool false]) ?_ rfl ?_
  · rw [results_cell_tmp rfl]
    go_simp
  · obtain ⟨z1, z2⟩ := S8.out.laid m9
    exact ⟨rfl, z1, z2⟩
set_option maxHeartbeats 2000000 in
set_option maxRecDepth 100000 in
theorem version_p3 (t : ByteArray) (b off cap R k : Nat) (w0 w : World) (E : Env w0 R b off cap t) (hB : Below w0.heap.size w0 w) (h : Rd w R (rv b off cap t) k) (hk : k ≤ t.size) (hw : ¬ whiteTo t k = k) (hs : seesB t (whiteTo t k) [118, 101, 114, 115, 105, 111, 110] = true) (he : equalsF t (whiteTo t k + 7) = none) :
    Calls Tryz.prog 39 #[.pointer (some ⟨R, 0, none⟩), .string ⟨#[118, 101, 114, 115, 105, 111, 110]⟩, .func (.func 40) #[] #[]] w fun e w' => e = .returned (.tuple #[.agg #[.string ⟨#[]⟩, .string ⟨#[]⟩], .bool false]) ∧ Rd w' R (rv b off cap t) k ∧ Moved R w w' := by
  have hwl := white_le hk
  have hwg := white_ge t k
  have BL := Lib.hid (fun W g (y : Txt W b off cap t) => blanks_any t b off cap R k W g hk y E.ne)
  have hgb : decide (k < whiteTo t k) = true := decide_eq_true (by omega)
  rw [hgb] at BL
  clear hgb hw
  have TK := Lib.hid (fun W g (y : Txt W b off cap t) => take_yes t ⟨#[118, 101, 114, 115, 105, 111, 110]⟩ b off cap R (whiteTo t k) W g hwl y (by decide) hs)
  have hr0 : whiteTo t k + 7 ≤ t.size := sees_room hwl hs
  have EQ := Lib.hid (fun W g (y : Txt W b off cap t) => equals_no t b off cap R (whiteTo t k + 7) W g hr0 y E.ne he)
  have HE := Lib.hid (And.intro E (And.intro hB h))
  clear h E hB hk hs hwg he hr0
  go_enter Tryz.func39, Tryz.ntmps39
  go_upto_region 1 with fail
  obtain ⟨W1, hW1⟩ : ∃ W, w.alloc PAIR0 = W := ⟨_, rfl⟩
  rw [hW1]
  have S1 := Lib.hid (St.first HE.out.1 HE.out.2.1 HE.out.2.2 hW1)
  clear hW1
  have p1 := S1.out.rd.place
  go_wp2_with (fail)
  refine (BL.out W1 S1.out.rd S1.out.txt).mono ?_
  rintro e w2 ⟨rfl, hr, hm⟩
  clear p1
  have S2 := Lib.hid (S1.out.moved hr hm)
  clear hr hm
  go_wp2_with (fail)
  refine (TK.out w2 S2.out.rd S2.out.txt).mono ?_
  rintro e w3 ⟨rfl, hr, hm⟩
  have S3 := Lib.hid (S2.out.moved hr hm)
  clear hr hm
  go_wp2_with (fail)
  refine (EQ.out w3 S3.out.rd S3.out.txt).mono ?_
  rintro e w4 ⟨rfl, ⟨j, hj, hr⟩, hm⟩
  have S4 := Lib.hid (S3.out.moved hr hm)
  clear hr hm
  have hr := S4.out.rd
  have p2 := hr.place
  have pf := hr.free
  have hset := hr.set k
  have S8 := Lib.hid (S4.out.moved hset.1 hset.2)
  clear hset hr
  go_upto_region 7 with fail
  obtain ⟨w8, hw8⟩ : ∃ W, w4.setCell ⟨R, 1, none⟩ (.int .i64 (k : Int)) = W := ⟨_, rfl⟩
  rw [hw8] at S8 ⊢
  clear hw8 p2 pf
  obtain ⟨⟨c0, c1⟩, ⟨f0, f1⟩⟩ := two_cells S8.out.out
  go_wp2_with (fail)
  change bodyPost _ _ _ _ _ (setPair w8 w.heap.size ⟨#[]⟩ ⟨#[]⟩)
  obtain ⟨w9, hw9⟩ : ∃ W, setPair w8 w.heap.size ⟨#[]⟩ ⟨#[]⟩ = W := ⟨_, rfl⟩
  obtain ⟨r9, m9⟩ := setPair_row ⟨#[]⟩ ⟨#[]⟩ S8.out.out
  rw [hw9] at r9 m9 ⊢
  obtain ⟨⟨d0, d1⟩, _⟩ := two_cells r9
  refine bodyPost_ret (v := .tuple #[.agg #[.string ⟨#[]⟩, .string ⟨#[]⟩], .bool false]) ?_ rfl ?_
  · rw [results_cell_tmp rfl]
    go_simp
  · obtain ⟨z1, z2⟩ := S8.out.laid m9
    exact ⟨rfl, z1, z2⟩
set_option maxHeartbeats 2000000 in
set_option maxRecDepth 100000 in
theorem version_p4 (t : ByteArray) (b off cap R k : Nat) (w0 w : World) (E : Env w0 R b off cap t) (hB : Below w0.heap.size w0 w) (h : Rd w R (rv b off cap t) k) (hk : k ≤ t.size) (i : Nat) (hw : ¬ whiteTo t k = k) (hs : seesB t (whiteTo t k) [118, 101, 114, 115, 105, 111, 110] = true) (he : equalsF t (whiteTo t k + 7) = some i) (hq : quotedF t i = none) :
    Calls Tryz.prog 39 #[.pointer (some ⟨R, 0, none⟩), .string ⟨#[118, 101, 114, 115, 105, 111, 110]⟩, .func (.func 40) #[] #[]] w fun e w' => e = .returned (.tuple #[.agg #[.string ⟨#[]⟩, .string ⟨#[]⟩], .bool false]) ∧ Rd w' R (rv b off cap t) k ∧ Moved R w w' := by
  have hwl := white_le hk
  have hwg := white_ge t k
  have BL := Lib.hid (fun W g (y : Txt W b off cap t) => blanks_any t b off cap R k W g hk y E.ne)
  have hgb : decide (k < whiteTo t k) = true := decide_eq_true (by omega)
  rw [hgb] at BL
  clear hgb hw
  have TK := Lib.hid (fun W g (y : Txt W b off cap t) => take_yes t ⟨#[118, 101, 114, 115, 105, 111, 110]⟩ b off cap R (whiteTo t k) W g hwl y (by decide) hs)
  have hr0 : whiteTo t k + 7 ≤ t.size := sees_room hwl hs
  have EQ := Lib.hid (fun W g (y : Txt W b off cap t) => equals_yes t b off cap R (whiteTo t k + 7) i W g hr0 y E.ne he)
  have hi := (equals_ok hr0 he).2
  have QU := Lib.hid (fun W g (y : Below w0.heap.size w0 W) => quoted_no t b off cap R i w0 W E y g hi hq)
  have HE := Lib.hid (And.intro E (And.intro hB h))
  clear h E hB hk hs hwg he hr0 hq
  go_enter Tryz.func39, Tryz.ntmps39
  go_upto_region 1 with fail
  obtain ⟨W1, hW1⟩ : ∃ W, w.alloc PAIR0 = W := ⟨_, rfl⟩
  rw [hW1]
  have S1 := Lib.hid (St.first HE.out.1 HE.out.2.1 HE.out.2.2 hW1)
  clear hW1
  have p1 := S1.out.rd.place
  go_wp2_with (fail)
  refine (BL.out W1 S1.out.rd S1.out.txt).mono ?_
  rintro e w2 ⟨rfl, hr, hm⟩
  clear p1
  have S2 := Lib.hid (S1.out.moved hr hm)
  clear hr hm
  go_wp2_with (fail)
  refine (TK.out w2 S2.out.rd S2.out.txt).mono ?_
  rintro e w3 ⟨rfl, hr, hm⟩
  have S3 := Lib.hid (S2.out.moved hr hm)
  clear hr hm
  go_wp2_with (fail)
  refine (EQ.out w3 S3.out.rd S3.out.txt).mono ?_
  rintro e w4 ⟨rfl, hr, hm⟩
  have S4 := Lib.hid (S3.out.moved hr hm)
  clear hr hm
  go_wp2_with (fail)
  refine (QU.out w4 S4.out.rd S4.out.below).mono ?_
  rintro e w5 ⟨⟨q, n4, c, rfl⟩, ⟨j4, hj4, hr⟩, hm⟩
  have S5 := Lib.hid (S4.out.moved hr hm)
  clear hr hm
  have hr := S5.out.rd
  have p2 := hr.place
  have pf := hr.free
  have hset := hr.set k
  have S8 := Lib.hid (S5.out.moved hset.1 hset.2)
  clear hset hr
  go_upto_region 7 with fail
  obtain ⟨w8, hw8⟩ : ∃ W, w5.setCell ⟨R, 1, none⟩ (.int .i64 (k : Int)) = W := ⟨_, rfl⟩
  rw [hw8] at S8 ⊢
  clear hw8 p2 pf
  obtain ⟨⟨c0, c1⟩, ⟨f0, f1⟩⟩ := two_cells S8.out.out
  go_wp2_with (fail)
  change bodyPost _ _ _ _ _ (setPair w8 w.heap.size ⟨#[]⟩ ⟨#[]⟩)
  obtain ⟨w9, hw9⟩ : ∃ W, setPair w8 w.heap.size ⟨#[]⟩ ⟨#[]⟩ = W := ⟨_, rfl⟩
  obtain ⟨r9, m9⟩ := setPair_row ⟨#[]⟩ ⟨#[]⟩ S8.out.out
  rw [hw9] at r9 m9 ⊢
  obtain ⟨⟨d0, d1⟩, _⟩ := two_cells r9
  refine bodyPost_ret (v := .tuple #[.agg #[.string ⟨#[]⟩, .string ⟨#[]⟩], .bool false]) ?_ rfl ?_
  · rw [results_cell_tmp rfl]
    go_simp
  · obtain ⟨z1, z2⟩ := S8.out.laid m9
    exact ⟨rfl, z1, z2⟩
set_option maxHeartbeats 2000000 in
set_option maxRecDepth 100000 in
theorem version_p5 (t : ByteArray) (b off cap R k : Nat) (w0 w : World) (E : Env w0 R b off cap t) (hB : Below w0.heap.size w0 w) (h : Rd w R (rv b off cap t) k) (hk : k ≤ t.size) (raw : ByteArray) (i m : Nat) (hw : ¬ whiteTo t k = k) (hs : seesB t (whiteTo t k) [118, 101, 114, 115, 105, 111, 110] = true) (he : equalsF t (whiteTo t k + 7) = some i) (hq : quotedF t i = some (raw, m)) (hri : versionB raw = false) :
    Calls Tryz.prog 39 #[.pointer (some ⟨R, 0, none⟩), .string ⟨#[118, 101, 114, 115, 105, 111, 110]⟩, .func (.func 40) #[] #[]] w fun e w' => e = .returned (.tuple #[.agg #[.string ⟨#[]⟩, .string ⟨#[]⟩], .bool false]) ∧ Rd w' R (rv b off cap t) k ∧ Moved R w w' := by
  have hwl := white_le hk
  have hwg := white_ge t k
  have BL := Lib.hid (fun W g (y : Txt W b off cap t) => blanks_any t b off cap R k W g hk y E.ne)
  have hgb : decide (k < whiteTo t k) = true := decide_eq_true (by omega)
  rw [hgb] at BL
  clear hgb hw
  have TK := Lib.hid (fun W g (y : Txt W b off cap t) => take_yes t ⟨#[118, 101, 114, 115, 105, 111, 110]⟩ b off cap R (whiteTo t k) W g hwl y (by decide) hs)
  have hr0 : whiteTo t k + 7 ≤ t.size := sees_room hwl hs
  have EQ := Lib.hid (fun W g (y : Txt W b off cap t) => equals_yes t b off cap R (whiteTo t k + 7) i W g hr0 y E.ne he)
  have hi := (equals_ok hr0 he).2
  have QU := Lib.hid (fun W g (y : Below w0.heap.size w0 W) => quoted_yes t b off cap R i raw m w0 W E y g hi hq)
  have hrs : raw.size ≤ 4194304 := by
    have h1 := (quoted_ok hi hq).2.2
    have h2 := E.txt.small
    omega
  have RT := fun W => version_any raw W hrs
  rw [hri] at RT
  have RTH := Lib.hid RT
  clear RT
  have HE := Lib.hid (And.intro E (And.intro hB h))
  clear h E hB hk hs hwg he hr0 hq hri hrs
  go_enter Tryz.func39, Tryz.ntmps39
  go_upto_region 1 with fail
  obtain ⟨W1, hW1⟩ : ∃ W, w.alloc PAIR0 = W := ⟨_, rfl⟩
  rw [hW1]
  have S1 := Lib.hid (St.first HE.out.1 HE.out.2.1 HE.out.2.2 hW1)
  clear hW1
  have p1 := S1.out.rd.place
  go_wp2_with (fail)
  refine (BL.out W1 S1.out.rd S1.out.txt).mono ?_
  rintro e w2 ⟨rfl, hr, hm⟩
  clear p1
  have S2 := Lib.hid (S1.out.moved hr hm)
  clear hr hm
  go_wp2_with (fail)
  refine (TK.out w2 S2.out.rd S2.out.txt).mono ?_
  rintro e w3 ⟨rfl, hr, hm⟩
  have S3 := Lib.hid (S2.out.moved hr hm)
  clear hr hm
  go_wp2_with (fail)
  refine (EQ.out w3 S3.out.rd S3.out.txt).mono ?_
  rintro e w4 ⟨rfl, hr, hm⟩
  have S4 := Lib.hid (S3.out.moved hr hm)
  clear hr hm
  go_wp2_with (fail)
  refine (QU.out w4 S4.out.rd S4.out.below).mono ?_
  rintro e w5 ⟨⟨q, c, rfl, q1, q2, q3⟩, hr, hj9, hm⟩
  have S5 := Lib.hid (S4.out.moved hr hm)
  clear hr hm
  have hcv := conv_str q1 c (fun e => absurd e q3)
  clear q1 q2 q3
  go_wp2_with (fail)
  refine (RTH.out w5).mono ?_
  rintro e w6 ⟨rfl, hw6⟩
  subst hw6
  clear hcv
  have hr := S5.out.rd
  have p2 := hr.place
  have pf := hr.free
  have hset := hr.set k
  have S8 := Lib.hid (S5.out.moved hset.1 hset.2)
  clear hset hr
  go_upto_region 7 with fail
  obtain ⟨w8, hw8⟩ : ∃ W, w5.setCell ⟨R, 1, none⟩ (.int .i64 (k : Int)) = W := ⟨_, rfl⟩
  rw [hw8] at S8 ⊢
  clear hw8 p2 pf
  obtain ⟨⟨c0, c1⟩, ⟨f0, f1⟩⟩ := two_cells S8.out.out
  go_wp2_with (fail)
  change bodyPost _ _ _ _ _ (setPair w8 w.heap.size ⟨#[]⟩ ⟨#[]⟩)
  obtain ⟨w9, hw9⟩ : ∃ W, setPair w8 w.heap.size ⟨#[]⟩ ⟨#[]⟩ = W := ⟨_, rfl⟩
  obtain ⟨r9, m9⟩ := setPair_row ⟨#[]⟩ ⟨#[]⟩ S8.out.out
  rw [hw9] at r9 m9 ⊢
  obtain ⟨⟨d0, d1⟩, _⟩ := two_cells r9
  refine bodyPost_ret (v := .tuple #[.agg #[.string ⟨#[]⟩, .string ⟨#[]⟩], .bool false]) ?_ rfl ?_
  · rw [results_cell_tmp rfl]
    go_simp
  · obtain ⟨z1, z2⟩ := S8.out.laid m9
    exact ⟨rfl, z1, z2⟩
set_option maxHeartbeats 2000000 in
set_option maxRecDepth 100000 in
theorem version_p6 (t : ByteArray) (b off cap R k : Nat) (w0 w : World) (E : Env w0 R b off cap t) (hB : Below w0.heap.size w0 w) (h : Rd w R (rv b off cap t) k) (hk : k ≤ t.size) (raw : ByteArray) (i m : Nat) (hw : ¬ whiteTo t k = k) (hs : seesB t (whiteTo t k) [118, 101, 114, 115, 105, 111, 110] = true) (he : equalsF t (whiteTo t k + 7) = some i) (hq : quotedF t i = some (raw, m)) (hri : versionB raw = true) :
    Calls Tryz.prog 39 #[.pointer (some ⟨R, 0, none⟩), .string ⟨#[118, 101, 114, 115, 105, 111, 110]⟩, .func (.func 40) #[] #[]] w fun e w' => e = .returned (.tuple #[.agg #[.string ⟨#[118, 101, 114, 115, 105, 111, 110]⟩, .string raw], .bool true]) ∧ Rd w' R (rv b off cap t) m ∧ Moved R w w' := by
  have hwl := white_le hk
  have hwg := white_ge t k
  have BL := Lib.hid (fun W g (y : Txt W b off cap t) => blanks_any t b off cap R k W g hk y E.ne)
  have hgb : decide (k < whiteTo t k) = true := decide_eq_true (by omega)
  rw [hgb] at BL
  clear hgb hw
  have TK := Lib.hid (fun W g (y : Txt W b off cap t) => take_yes t ⟨#[118, 101, 114, 115, 105, 111, 110]⟩ b off cap R (whiteTo t k) W g hwl y (by decide) hs)
  have hr0 : whiteTo t k + 7 ≤ t.size := sees_room hwl hs
  have EQ := Lib.hid (fun W g (y : Txt W b off cap t) => equals_yes t b off cap R (whiteTo t k + 7) i W g hr0 y E.ne he)
  have hi := (equals_ok hr0 he).2
  have QU := Lib.hid (fun W g (y : Below w0.heap.size w0 W) => quoted_yes t b off cap R i raw m w0 W E y g hi hq)
  have hrs : raw.size ≤ 4194304 := by
    have h1 := (quoted_ok hi hq).2.2
    have h2 := E.txt.small
    omega
  have RT := fun W => version_any raw W hrs
  rw [hri] at RT
  have RTH := Lib.hid RT
  clear RT
  have HE := Lib.hid (And.intro E (And.intro hB h))
  clear h E hB hk hs hwg he hr0 hq hri hrs
  go_enter Tryz.func39, Tryz.ntmps39
  go_upto_region 1 with fail
  obtain ⟨W1, hW1⟩ : ∃ W, w.alloc PAIR0 = W := ⟨_, rfl⟩
  rw [hW1]
  have S1 := Lib.hid (St.first HE.out.1 HE.out.2.1 HE.out.2.2 hW1)
  clear hW1
  have p1 := S1.out.rd.place
  go_wp2_with (fail)
  refine (BL.out W1 S1.out.rd S1.out.txt).mono ?_
  rintro e w2 ⟨rfl, hr, hm⟩
  clear p1
  have S2 := Lib.hid (S1.out.moved hr hm)
  clear hr hm
  go_wp2_with (fail)
  refine (TK.out w2 S2.out.rd S2.out.txt).mono ?_
  rintro e w3 ⟨rfl, hr, hm⟩
  have S3 := Lib.hid (S2.out.moved hr hm)
  clear hr hm
  go_wp2_with (fail)
  refine (EQ.out w3 S3.out.rd S3.out.txt).mono ?_
  rintro e w4 ⟨rfl, hr, hm⟩
  have S4 := Lib.hid (S3.out.moved hr hm)
  clear hr hm
  go_wp2_with (fail)
  refine (QU.out w4 S4.out.rd S4.out.below).mono ?_
  rintro e w5 ⟨⟨q, c, rfl, q1, q2, q3⟩, hr, hj9, hm⟩
  have S5 := Lib.hid (S4.out.moved hr hm)
  clear hr hm
  have hcv := conv_str q1 c (fun e => absurd e q3)
  clear q1 q2 q3
  go_wp2_with (fail)
  refine (RTH.out w5).mono ?_
  rintro e w6 ⟨rfl, hw6⟩
  subst hw6
  obtain ⟨⟨c0, c1⟩, ⟨f0, f1⟩⟩ := two_cells S5.out.out
  go_wp2_with (fail)
  change bodyPost _ _ _ _ _ (setPair w5 w.heap.size ⟨#[118, 101, 114, 115, 105, 111, 110]⟩ raw)
  obtain ⟨w9, hw9⟩ : ∃ W, setPair w5 w.heap.size ⟨#[118, 101, 114, 115, 105, 111, 110]⟩ raw = W := ⟨_, rfl⟩
  obtain ⟨r9, m9⟩ := setPair_row ⟨#[118, 101, 114, 115, 105, 111, 110]⟩ raw S5.out.out
  rw [hw9] at r9 m9 ⊢
  obtain ⟨⟨d0, d1⟩, _⟩ := two_cells r9
  refine bodyPost_ret (v := .tuple #[.agg #[.string ⟨#[118, 101, 114, 115, 105, 111, 110]⟩, .string raw], .bool true]) ?_ rfl ?_
  · rw [results_cell_tmp rfl]
    go_simp
  · obtain ⟨z1, z2⟩ := S5.out.laid m9
    exact ⟨rfl, z1, z2⟩
theorem version_prop (t : ByteArray) (b off cap R k : Nat) (w0 w : World) (E : Env w0 R b off cap t) (hB : Below w0.heap.size w0 w) (h : Rd w R (rv b off cap t) k) (hk : k ≤ t.size) :
    Calls Tryz.prog 39 #[.pointer (some ⟨R, 0, none⟩), .string ⟨#[118, 101, 114, 115, 105, 111, 110]⟩, .func (.func 40) #[] #[]] w fun e w' => PropPost R b off cap k t (propF t k [118, 101, 114, 115, 105, 111, 110] versionB) e w' ∧ Moved R w w' := by
  unfold propF
  by_cases hw : whiteTo t k = k
  · rw [if_pos (.inl hw)]
    exact (version_p1 t b off cap R k w0 w E hB h hk hw).mono fun _ _ z => ⟨⟨z.1, z.2.1⟩, z.2.2⟩
  cases hs : seesB t (whiteTo t k) [118, 101, 114, 115, 105, 111, 110]
  · rw [if_pos (.inr rfl)]
    exact (version_p2 t b off cap R k w0 w E hB h hk hw hs).mono fun _ _ z => ⟨⟨z.1, z.2.1⟩, z.2.2⟩
  · rw [if_neg (by rintro (g | g); exact hw g; cases g)]
    cases he : equalsF t (whiteTo t k + 7) with
    | none =>
      exact (version_p3 t b off cap R k w0 w E hB h hk hw hs he).mono fun _ _ z => ⟨⟨z.1, z.2.1⟩, z.2.2⟩
    | some i =>
      simp only
      cases hq : quotedF t i with
      | none => exact (version_p4 t b off cap R k w0 w E hB h hk i hw hs he hq).mono fun _ _ z => ⟨⟨z.1, z.2.1⟩, z.2.2⟩
      | some q =>
        obtain ⟨raw, m⟩ := q
        simp only
        cases hri : versionB raw
        · exact (version_p5 t b off cap R k w0 w E hB h hk raw i m hw hs he hq hri).mono fun _ _ z => ⟨⟨z.1, z.2.1⟩, z.2.2⟩
        · exact (version_p6 t b off cap R k w0 w E hB h hk raw i m hw hs he hq hri).mono fun _ _ z => ⟨⟨z.1, z.2.1⟩, z.2.2⟩
set_option maxHeartbeats 2000000 in
set_option maxRecDepth 100000 in
theorem encoding_p1 (t : ByteArray) (b off cap R k : Nat) (w0 w : World) (E : Env w0 R b off cap t) (hB : Below w0.heap.size w0 w) (h : Rd w R (rv b off cap t) k) (hk : k ≤ t.size) (hw : whiteTo t k = k) :
    Calls Tryz.prog 39 #[.pointer (some ⟨R, 0, none⟩), .string ⟨#[101, 110, 99, 111, 100, 105, 110, 103]⟩, .func (.func 41) #[] #[]] w fun e w' => e = .returned (.tuple #[.agg #[.string ⟨#[]⟩, .string ⟨#[]⟩], .bool false]) ∧ Rd w' R (rv b off cap t) k ∧ Moved R w w' := by
  have BL := Lib.hid (fun W g (y : Txt W b off cap t) => blanks_any t b off cap R k W g hk y E.ne)
  have hgb : decide (k < whiteTo t k) = false := decide_eq_false (by omega)
  rw [hgb] at BL
  clear hgb hw
  have HE := Lib.hid (And.intro E (And.intro hB h))
  clear h E hB hk
  go_enter Tryz.func39, Tryz.ntmps39
  go_upto_region 1 with fail
  obtain ⟨W1, hW1⟩ : ∃ W, w.alloc PAIR0 = W := ⟨_, rfl⟩
  rw [hW1]
  have S1 := Lib.hid (St.first HE.out.1 HE.out.2.1 HE.out.2.2 hW1)
  clear hW1
  have p1 := S1.out.rd.place
  go_wp2_with (fail)
  refine (BL.out W1 S1.out.rd S1.out.txt).mono ?_
  rintro e w2 ⟨rfl, hr, hm⟩
  clear p1
  have S2 := Lib.hid (S1.out.moved hr hm)
  clear hr hm
  have hr := S2.out.rd
  have p2 := hr.place
  have pf := hr.free
  have hset := hr.set k
  have S8 := Lib.hid (S2.out.moved hset.1 hset.2)
  clear hset hr
  go_upto_region 7 with fail
  obtain ⟨w8, hw8⟩ : ∃ W, w2.setCell ⟨R, 1, none⟩ (.int .i64 (k : Int)) = W := ⟨_, rfl⟩
  rw [hw8] at S8 ⊢
  clear hw8 p2 pf
  obtain ⟨⟨c0, c1⟩, ⟨f0, f1⟩⟩ := two_cells S8.out.out
  go_wp2_with (fail)
  change bodyPost _ _ _ _ _ (setPair w8 w.heap.size ⟨#[]⟩ ⟨#[]⟩)
  obtain ⟨w9, hw9⟩ : ∃ W, setPair w8 w.heap.size ⟨#[]⟩ ⟨#[]⟩ = W := ⟨_, rfl⟩
  obtain ⟨r9, m9⟩ := setPair_row ⟨#[]⟩ ⟨#[]⟩ S8.out.out
  rw [hw9] at r9 m9 ⊢
  obtain ⟨⟨d0, d1⟩, _⟩ := two_cells r9
  refine bodyPost_ret (v := .tuple #[.agg #[.string ⟨#[]⟩, .string ⟨#[]⟩], .bool false]) ?_ rfl ?_
  · rw [results_cell_tmp rfl]
    go_simp
  · obtain ⟨z1, z2⟩ := S8.out.laid m9
    exact ⟨rfl, z1, z2⟩
set_option maxHeartbeats 2000000 in
set_option maxRecDepth 100000 in
theorem encoding_p2 (t : ByteArray) (b off cap R k : Nat) (w0 w : World) (E : Env w0 R b off cap t) (hB : Below w0.heap.size w0 w) (h : Rd w R (rv b off cap t) k) (hk : k ≤ t.size) (hw : ¬ whiteTo t k = k) (hs : seesB t (whiteTo t k) [101, 110, 99, 111, 100, 105, 110, 103] = false) :
    Calls Tryz.prog 39 #[.pointer (some ⟨R, 0, none⟩), .string ⟨#[101, 110, 99, 111, 100, 105, 110, 103]⟩, .func (.func 41) #[] #[]] w fun e w' => e = .returned (.tuple #[.agg #[.string ⟨#[]⟩, .string ⟨#[]⟩], .bool false]) ∧ Rd w' R (rv b off cap t) k ∧ Moved R w w' := by
  have hwl := white_le hk
  have hwg := white_ge t k
  have BL := Lib.hid (fun W g (y : Txt W b off cap t) => blanks_any t b off cap R k W g hk y E.ne)
  have hgb : decide (k < whiteTo t k) = true := decide_eq_true (by omega)
  rw [hgb] at BL
  clear hgb hw
  have TK := Lib.hid (fun W g (y : Txt W b off cap t) => take_no t ⟨#[101, 110, 99, 111, 100, 105, 110, 103]⟩ b off cap R (whiteTo t k) W g hwl y hs)
  have HE := Lib.hid (And.intro E (And.intro hB h))
  clear h E hB hk hs hwg
  go_enter Tryz.func39, Tryz.ntmps39
  go_upto_region 1 with fail
  obtain ⟨W1, hW1⟩ : ∃ W, w.alloc PAIR0 = W := ⟨_, rfl⟩
  rw [hW1]
  have S1 := Lib.hid (St.first HE.out.1 HE.out.2.1 HE.out.2.2 hW1)
  clear hW1
  have p1 := S1.out.rd.place
  go_wp2_with (fail)
  refine (BL.out W1 S1.out.rd S1.out.txt).mono ?_
  rintro e w2 ⟨rfl, hr, hm⟩
  clear p1
  have S2 := Lib.hid (S1.out.moved hr hm)
  clear hr hm
  go_wp2_with (fail)
  refine (TK.out w2 S2.out.rd S2.out.txt).mono ?_
  rintro e w3 ⟨rfl, hr, hm⟩
  have S3 := Lib.hid (S2.out.moved hr hm)
  clear hr hm
  have hr := S3.out.rd
  have p2 := hr.place
  have pf := hr.free
  have hset := hr.set k
  have S8 := Lib.hid (S3.out.moved hset.1 hset.2)
  clear hset hr
  go_upto_region 7 with fail
  obtain ⟨w8, hw8⟩ : ∃ W, w3.setCell ⟨R, 1, none⟩ (.int .i64 (k : Int)) = W := ⟨_, rfl⟩
  rw [hw8] at S8 ⊢
  clear hw8 p2 pf
  obtain ⟨⟨c0, c1⟩, ⟨f0, f1⟩⟩ := two_cells S8.out.out
  go_wp2_with (fail)
  change bodyPost _ _ _ _ _ (setPair w8 w.heap.size ⟨#[]⟩ ⟨#[]⟩)
  obtain ⟨w9, hw9⟩ : ∃ W, setPair w8 w.heap.size ⟨#[]⟩ ⟨#[]⟩ = W := ⟨_, rfl⟩
  obtain ⟨r9, m9⟩ := setPair_row ⟨#[]⟩ ⟨#[]⟩ S8.out.out
  rw [hw9] at r9 m9 ⊢
  obtain ⟨⟨d0, d1⟩, _⟩ := two_cells r9
  refine bodyPost_ret (v := .tuple #[.agg #[.string ⟨#[]⟩, .string ⟨#[]⟩], .bool false]) ?_ rfl ?_
  · rw [results_cell_tmp rfl]
    go_simp
  · obtain ⟨z1, z2⟩ := S8.out.laid m9
    exact ⟨rfl, z1, z2⟩
set_option maxHeartbeats 2000000 in
set_option maxRecDepth 100000 in
theorem encoding_p3 (t : ByteArray) (b off cap R k : Nat) (w0 w : World) (E : Env w0 R b off cap t) (hB : Below w0.heap.size w0 w) (h : Rd w R (rv b off cap t) k) (hk : k ≤ t.size) (hw : ¬ whiteTo t k = k) (hs : seesB t (whiteTo t k) [101, 110, 99, 111, 100, 105, 110, 103] = true) (he : equalsF t (whiteTo t k + 8) = none) :
    Calls Tryz.prog 39 #[.pointer (some ⟨R, 0, none⟩), .string ⟨#[101, 110, 99, 111, 100, 105, 110, 103]⟩, .func (.func 41) #[] #[]] w fun e w' => e = .returned (.tuple #[.agg #[.string ⟨#[]⟩, .string ⟨#[]⟩], .bool false]) ∧ Rd w' R (rv b off cap t) k ∧ Moved R w w' := by
  have hwl := white_le hk
  have hwg := white_ge t k
  have BL := Lib.hid (fun W g (y : Txt W b off cap t) => blanks_any t b off cap R k W g hk y E.ne)
  have hgb : decide (k < whiteTo t k) = true := decide_eq_true (by omega)
  rw [hgb] at BL
  clear hgb hw
  have TK := Lib.hid (fun W g (y : Txt W b off cap t) => take_yes t ⟨#[101, 110, 99, 111, 100, 105, 110, 103]⟩ b off cap R (whiteTo t k) W g hwl y (by decide) hs)
  have hr0 : whiteTo t k + 8 ≤ t.size := sees_room hwl hs
  have EQ := Lib.hid (fun W g (y : Txt W b off cap t) => equals_no t b off cap R (whiteTo t k + 8) W g hr0 y E.ne he)
  have HE := Lib.hid (And.intro E (And.intro hB h))
  clear h E hB hk hs hwg he hr0
  go_enter Tryz.func39, Tryz.ntmps39
  go_upto_region 1 with fail
  obtain ⟨W1, hW1⟩ : ∃ W, w.alloc PAIR0 = W := ⟨_, rfl⟩
  rw [hW1]
  have S1 := Lib.hid (St.first HE.out.1 HE.out.2.1 HE.out.2.2 hW1)
  clear hW1
  have p1 := S1.out.rd.place
  go_wp2_with (fail)
  refine (BL.out W1 S1.out.rd S1.out.txt).mono ?_
  rintro e w2 ⟨rfl, hr, hm⟩
  clear p1
  have S2 := Lib.hid (S1.out.moved hr hm)
  clear hr hm
  go_wp2_with (fail)
  refine (TK.out w2 S2.out.rd S2.out.txt).mono ?_
  rintro e w3 ⟨rfl, hr, hm⟩
  have S3 := Lib.hid (S2.out.moved hr hm)
  clear hr hm
  go_wp2_with (fail)
  refine (EQ.out w3 S3.out.rd S3.out.txt).mono ?_
  rintro e w4 ⟨rfl, ⟨j, hj, hr⟩, hm⟩
  have S4 := Lib.hid (S3.out.moved hr hm)
  clear hr hm
  have hr := S4.out.rd
  have p2 := hr.place
  have pf := hr.free
  have hset := hr.set k
  have S8 := Lib.hid (S4.out.moved hset.1 hset.2)
  clear hset hr
  go_upto_region 7 with fail
  obtain ⟨w8, hw8⟩ : ∃ W, w4.setCell ⟨R, 1, none⟩ (.int .i64 (k : Int)) = W := ⟨_, rfl⟩
  rw [hw8] at S8 ⊢
  clear hw8 p2 pf
  obtain ⟨⟨c0, c1⟩, ⟨f0, f1⟩⟩ := two_cells S8.out.out
  go_wp2_with (fail)
  change bodyPost _ _ _ _ _ (setPair w8 w.heap.size ⟨#[]⟩ ⟨#[]⟩)
  obtain ⟨w9, hw9⟩ : ∃ W, setPair w8 w.heap.size ⟨#[]⟩ ⟨#[]⟩ = W := ⟨_, rfl⟩
  obtain ⟨r9, m9⟩ := setPair_row ⟨#[]⟩ ⟨#[]⟩ S8.out.out
  rw [hw9] at r9 m9 ⊢
  obtain ⟨⟨d0, d1⟩, _⟩ := two_cells r9
  refine bodyPost_ret (v := .tuple #[.agg #[.string ⟨#[]⟩, .string ⟨#[]⟩], .bool false]) ?_ rfl ?_
  · rw [results_cell_tmp rfl]
    go_simp
  · obtain ⟨z1, z2⟩ := S8.out.laid m9
    exact ⟨rfl, z1, z2⟩
set_option maxHeartbeats 2000000 in
set_option maxRecDepth 100000 in
theorem encoding_p4 (t : ByteArray) (b off cap R k : Nat) (w0 w : World) (E : Env w0 R b off cap t) (hB : Below w0.heap.size w0 w) (h : Rd w R (rv b off cap t) k) (hk : k ≤ t.size) (i : Nat) (hw : ¬ whiteTo t k = k) (hs : seesB t (whiteTo t k) [101, 110, 99, 111, 100, 105, 110, 103] = true) (he : equalsF t (whiteTo t k + 8) = some i) (hq : quotedF t i = none) :
    Calls Tryz.prog 39 #[.pointer (some ⟨R, 0, none⟩), .string ⟨#[101, 110, 99, 111, 100, 105, 110, 103]⟩, .func (.func 41) #[] #[]] w fun e w' => e = .returned (.tuple #[.agg #[.string ⟨#[]⟩, .string ⟨#[]⟩], .bool false]) ∧ Rd w' R (rv b off cap t) k ∧ Moved R w w' := by
  have hwl := white_le hk
  have hwg := white_ge t k
  have BL := Lib.hid (fun W g (y : Txt W b off cap t) => blanks_any t b off cap R k W g hk y E.ne)
  have hgb : decide (k < whiteTo t k) = true := decide_eq_true (by omega)
  rw [hgb] at BL
  clear hgb hw
  have TK := Lib.hid (fun W g (y : Txt W b off cap t) => take_yes t ⟨#[101, 110, 99, 111, 100, 105, 110, 103]⟩ b off cap R (whiteTo t k) W g hwl y (by decide) hs)
  have hr0 : whiteTo t k + 8 ≤ t.size := sees_room hwl hs
  have EQ := Lib.hid (fun W g (y : Txt W b off cap t) => equals_yes t b off cap R (whiteTo t k + 8) i W g hr0 y E.ne he)
  have hi := (equals_ok hr0 he).2
  have QU := Lib.hid (fun W g (y : Below w0.heap.size w0 W) => quoted_no t b off cap R i w0 W E y g hi hq)
  have HE := Lib.hid (And.intro E (And.intro hB h))
  clear h E hB hk hs hwg he hr0 hq
  go_enter Tryz.func39, Tryz.ntmps39
  go_upto_region 1 with fail
  obtain ⟨W1, hW1⟩ : ∃ W, w.alloc PAIR0 = W := ⟨_, rfl⟩
  rw [hW1]
  have S1 := Lib.hid (St.first HE.out.1 HE.out.2.1 HE.out.2.2 hW1)
  clear hW1
  have p1 := S1.out.rd.place
  go_wp2_with (fail)
  refine (BL.out W1 S1.out.rd S1.out.txt).mono ?_
  rintro e w2 ⟨rfl, hr, hm⟩
  clear p1
  have S2 := Lib.hid (S1.out.moved hr hm)
  clear hr hm
  go_wp2_with (fail)
  refine (TK.out w2 S2.out.rd S2.out.txt).mono ?_
  rintro e w3 ⟨rfl, hr, hm⟩
  have S3 := Lib.hid (S2.out.moved hr hm)
  clear hr hm
  go_wp2_with (fail)
  refine (EQ.out w3 S3.out.rd S3.out.txt).mono ?_
  rintro e w4 ⟨rfl, hr, hm⟩
  have S4 := Lib.hid (S3.out.moved hr hm)
  clear hr hm
  go_wp2_with (fail)
  refine (QU.out w4 S4.out.rd S4.out.below).mono ?_
  rintro e w5 ⟨⟨q, n4, c, rfl⟩, ⟨j4, hj4, hr⟩, hm⟩
  have S5 := Lib.hid (S4.out.moved hr hm)
  clear hr hm
  have hr := S5.out.rd
  have p2 := hr.place
  have pf := hr.free
  have hset := hr.set k
  have S8 := Lib.hid (S5.out.moved hset.1 hset.2)
  clear hset hr
  go_upto_region 7 with fail
  obtain ⟨w8, hw8⟩ : ∃ W, w5.setCell ⟨R, 1, none⟩ (.int .i64 (k : Int)) = W := ⟨_, rfl⟩
  rw [hw8] at S8 ⊢
  clear hw8 p2 pf
  obtain ⟨⟨c0, c1⟩, ⟨f0, f1⟩⟩ := two_cells S8.out.out
  go_wp2_with (fail)
  change bodyPost _ _ _ _ _ (setPair w8 w.heap.size ⟨#[]⟩ ⟨#[]⟩)
  obtain ⟨w9, hw9⟩ : ∃ W, setPair w8 w.heap.size ⟨#[]⟩ ⟨#[]⟩ = W := ⟨_, rfl⟩
  obtain ⟨r9, m9⟩ := setPair_row ⟨#[]⟩ ⟨#[]⟩ S8.out.out
  rw [hw9] at r9 m9 ⊢
  obtain ⟨⟨d0, d1⟩, _⟩ := two_cells r9
  refine bodyPost_ret (v := .tuple #[.agg #[.string ⟨#[]⟩, .string ⟨#[]⟩], .bool false]) ?_ rfl ?_
  · rw [results_cell_tmp rfl]
    go_simp
  · obtain ⟨z1, z2⟩ := S8.out.laid m9
    exact ⟨rfl, z1, z2⟩
set_option maxHeartbeats 2000000 in
set_option maxRecDepth 100000 in
theorem encoding_p5 (t : ByteArray) (b off cap R k : Nat) (w0 w : World) (E : Env w0 R b off cap t) (hB : Below w0.heap.size w0 w) (h : Rd w R (rv b off cap t) k) (hk : k ≤ t.size) (raw : ByteArray) (i m : Nat) (hw : ¬ whiteTo t k = k) (hs : seesB t (whiteTo t k) [101, 110, 99, 111, 100, 105, 110, 103] = true) (he : equalsF t (whiteTo t k + 8) = some i) (hq : quotedF t i = some (raw, m)) (hri : encodingB raw = false) :
    Calls Tryz.prog 39 #[.pointer (some ⟨R, 0, none⟩), .string ⟨#[101, 110, 99, 111, 100, 105, 110, 103]⟩, .func (.func 41) #[] #[]] w fun e w' => e = .returned (.tuple #[.agg #[.string ⟨#[]⟩, .string ⟨#[]⟩], .bool false]) ∧ Rd w' R (rv b off cap t) k ∧ Moved R w w' := by
  have hwl := white_le hk
  have hwg := white_ge t k
  have BL := Lib.hid (fun W g (y : Txt W b off cap t) => blanks_any t b off cap R k W g hk y E.ne)
  have hgb : decide (k < whiteTo t k) = true := decide_eq_true (by omega)
  rw [hgb] at BL
  clear hgb hw
  have TK := Lib.hid (fun W g (y : Txt W b off cap t) => take_yes t ⟨#[101, 110, 99, 111, 100, 105, 110, 103]⟩ b off cap R (whiteTo t k) W g hwl y (by decide) hs)
  have hr0 : whiteTo t k + 8 ≤ t.size := sees_room hwl hs
  have EQ := Lib.hid (fun W g (y : Txt W b off cap t) => equals_yes t b off cap R (whiteTo t k + 8) i W g hr0 y E.ne he)
  have hi := (equals_ok hr0 he).2
  have QU := Lib.hid (fun W g (y : Below w0.heap.size w0 W) => quoted_yes t b off cap R i raw m w0 W E y g hi hq)
  have hrs : raw.size ≤ 4194304 := by
    have h1 := (quoted_ok hi hq).2.2
    have h2 := E.txt.small
    omega
  have RT := fun W => encode_any raw W hrs
  rw [hri] at RT
  have RTH := Lib.hid RT
  clear RT
  have HE := Lib.hid (And.intro E (And.intro hB h))
  clear h E hB hk hs hwg he hr0 hq hri hrs
  go_enter Tryz.func39, Tryz.ntmps39
  go_upto_region 1 with fail
  obtain ⟨W1, hW1⟩ : ∃ W, w.alloc PAIR0 = W := ⟨_, rfl⟩
  rw [hW1]
  have S1 := Lib.hid (St.first HE.out.1 HE.out.2.1 HE.out.2.2 hW1)
  clear hW1
  have p1 := S1.out.rd.place
  go_wp2_with (fail)
  refine (BL.out W1 S1.out.rd S1.out.txt).mono ?_
  rintro e w2 ⟨rfl, hr, hm⟩
  clear p1
  have S2 := Lib.hid (S1.out.moved hr hm)
  clear hr hm
  go_wp2_with (fail)
  refine (TK.out w2 S2.out.rd S2.out.txt).mono ?_
  rintro e w3 ⟨rfl, hr, hm⟩
  have S3 := Lib.hid (S2.out.moved hr hm)
  clear hr hm
  go_wp2_with (fail)
  refine (EQ.out w3 S3.out.rd S3.out.txt).mono ?_
  rintro e w4 ⟨rfl, hr, hm⟩
  have S4 := Lib.hid (S3.out.moved hr hm)
  clear hr hm
  go_wp2_with (fail)
  refine (QU.out w4 S4.out.rd S4.out.below).mono ?_
  rintro e w5 ⟨⟨q, c, rfl, q1, q2, q3⟩, hr, hj9, hm⟩
  have S5 := Lib.hid (S4.out.moved hr hm)
  clear hr hm
  have hcv := conv_str q1 c (fun e => absurd e q3)
  clear q1 q2 q3
  go_wp2_with (fail)
  refine (RTH.out w5).mono ?_
  rintro e w6 ⟨rfl, hw6⟩
  subst hw6
  clear hcv
  have hr := S5.out.rd
  have p2 := hr.place
  have pf := hr.free
  have hset := hr.set k
  have S8 := Lib.hid (S5.out.moved hset.1 hset.2)
  clear hset hr
  go_upto_region 7 with fail
  obtain ⟨w8, hw8⟩ : ∃ W, w5.setCell ⟨R, 1, none⟩ (.int .i64 (k : Int)) = W := ⟨_, rfl⟩
  rw [hw8] at S8 ⊢
  clear hw8 p2 pf
  obtain ⟨⟨c0, c1⟩, ⟨f0, f1⟩⟩ := two_cells S8.out.out
  go_wp2_with (fail)
  change bodyPost _ _ _ _ _ (setPair w8 w.heap.size ⟨#[]⟩ ⟨#[]⟩)
  obtain ⟨w9, hw9⟩ : ∃ W, setPair w8 w.heap.size ⟨#[]⟩ ⟨#[]⟩ = W := ⟨_, rfl⟩
  obtain ⟨r9, m9⟩ := setPair_row ⟨#[]⟩ ⟨#[]⟩ S8.out.out
  rw [hw9] at r9 m9 ⊢
  obtain ⟨⟨d0, d1⟩, _⟩ := two_cells r9
  refine bodyPost_ret (v := .tuple #[.agg #[.string ⟨#[]⟩, .string ⟨#[]⟩], .bool false]) ?_ rfl ?_
  · rw [results_cell_tmp rfl]
    go_simp
  · obtain ⟨z1, z2⟩ := S8.out.laid m9
    exact ⟨rfl, z1, z2⟩
set_option maxHeartbeats 2000000 in
set_option maxRecDepth 100000 in
theorem encoding_p6 (t : ByteArray) (b off cap R k : Nat) (w0 w : World) (E : Env w0 R b off cap t) (hB : Below w0.heap.size w0 w) (h : Rd w R (rv b off cap t) k) (hk : k ≤ t.size) (raw : ByteArray) (i m : Nat) (hw : ¬ whiteTo t k = k) (hs : seesB t (whiteTo t k) [101, 110, 99, 111, 100, 105, 110, 103] = true) (he : equalsF t (whiteTo t k + 8) = some i) (hq : quotedF t i = some (raw, m)) (hri : encodingB raw = true) :
    Calls Tryz.prog 39 #[.pointer (some ⟨R, 0, none⟩), .string ⟨#[101, 110, 99, 111, 100, 105, 110, 103]⟩, .func (.func 41) #[] #[]] w fun e w' => e = .returned (.tuple #[.agg #[.string ⟨#[101, 110, 99, 111, 100, 105, 110, 103]⟩, .string raw], .bool true]) ∧ Rd w' R (rv b off cap t) m ∧ Moved R w w' := by
  have hwl := white_le hk
  have hwg := white_ge t k
  have BL := Lib.hid (fun W g (y : Txt W b off cap t) => blanks_any t b off cap R k W g hk y E.ne)
  have hgb : decide (k < whiteTo t k) = true := decide_eq_true (by omega)
  rw [hgb] at BL
  clear hgb hw
  have TK := Lib.hid (fun W g (y : Txt W b off cap t) => take_yes t ⟨#[101, 110, 99, 111, 100, 105, 110, 103]⟩ b off cap R (whiteTo t k) W g hwl y (by decide) hs)
  have hr0 : whiteTo t k + 8 ≤ t.size := sees_room hwl hs
  have EQ := Lib.hid (fun W g (y : Txt W b off cap t) => equals_yes t b off cap R (whiteTo t k + 8) i W g hr0 y E.ne he)
  have hi := (equals_ok hr0 he).2
  have QU := Lib.hid (fun W g (y : Below w0.heap.size w0 W) => quoted_yes t b off cap R i raw m w0 W E y g hi hq)
  have hrs : raw.size ≤ 4194304 := by
    have h1 := (quoted_ok hi hq).2.2
    have h2 := E.txt.small
    omega
  have RT := fun W => encode_any raw W hrs
  rw [hri] at RT
  have RTH := Lib.hid RT
  clear RT
  have HE := Lib.hid (And.intro E (And.intro hB h))
  clear h E hB hk hs hwg he hr0 hq hri hrs
  go_enter Tryz.func39, Tryz.ntmps39
  go_upto_region 1 with fail
  obtain ⟨W1, hW1⟩ : ∃ W, w.alloc PAIR0 = W := ⟨_, rfl⟩
  rw [hW1]
  have S1 := Lib.hid (St.first HE.out.1 HE.out.2.1 HE.out.2.2 hW1)
  clear hW1
  have p1 := S1.out.rd.place
  go_wp2_with (fail)
  refine (BL.out W1 S1.out.rd S1.out.txt).mono ?_
  rintro e w2 ⟨rfl, hr, hm⟩
  clear p1
  have S2 := Lib.hid (S1.out.moved hr hm)
  clear hr hm
  go_wp2_with (fail)
  refine (TK.out w2 S2.out.rd S2.out.txt).mono ?_
  rintro e w3 ⟨rfl, hr, hm⟩
  have S3 := Lib.hid (S2.out.moved hr hm)
  clear hr hm
  go_wp2_with (fail)
  refine (EQ.out w3 S3.out.rd S3.out.txt).mono ?_
  rintro e w4 ⟨rfl, hr, hm⟩
  have S4 := Lib.hid (S3.out.moved hr hm)
  clear hr hm
  go_wp2_with (fail)
  refine (QU.out w4 S4.out.rd S4.out.below).mono ?_
  rintro e w5 ⟨⟨q, c, rfl, q1, q2, q3⟩, hr, hj9, hm⟩
  have S5 := Lib.hid (S4.out.moved hr hm)
  clear hr hm
  have hcv := conv_str q1 c (fun e => absurd e q3)
  clear q1 q2 q3
  go_wp2_with (fail)
  refine (RTH.out w5).mono ?_
  rintro e w6 ⟨rfl, hw6⟩
  subst hw6
  obtain ⟨⟨c0, c1⟩, ⟨f0, f1⟩⟩ := two_cells S5.out.out
  go_wp2_with (fail)
  change bodyPost _ _ _ _ _ (setPair w5 w.heap.size ⟨#[101, 110, 99, 111, 100, 105, 110, 103]⟩ raw)
  obtain ⟨w9, hw9⟩ : ∃ W, setPair w5 w.heap.size ⟨#[101, 110, 99, 111, 100, 105, 110, 103]⟩ raw = W := ⟨_, rfl⟩
  obtain ⟨r9, m9⟩ := setPair_row ⟨#[101, 110, 99, 111, 100, 105, 110, 103]⟩ raw S5.out.out
  rw [hw9] at r9 m9 ⊢
  obtain ⟨⟨d0, d1⟩, _⟩ := two_cells r9
  refine bodyPost_ret (v := .tuple #[.agg #[.string ⟨#[101, 110, 99, 111, 100, 105, 110, 103]⟩, .string raw], .bool true]) ?_ rfl ?_
  · rw [results_cell_tmp rfl]
    go_simp
  · obtain ⟨z1, z2⟩ := S5.out.laid m9
    exact ⟨rfl, z1, z2⟩
theorem encoding_prop (t : ByteArray) (b off cap R k : Nat) (w0 w : World) (E : Env w0 R b off cap t) (hB : Below w0.heap.size w0 w) (h : Rd w R (rv b off cap t) k) (hk : k ≤ t.size) :
    Calls Tryz.prog 39 #[.pointer (some ⟨R, 0, none⟩), .string ⟨#[101, 110, 99, 111, 100, 105, 110, 103]⟩, .func (.func 41) #[] #[]] w fun e w' => PropPost R b off cap k t (propF t k [101, 110, 99, 111, 100, 105, 110, 103] encodingB) e w' ∧ Moved R w w' := by
  unfold propF
  by_cases hw : whiteTo t k = k
  · rw [if_pos (.inl hw)]
    exact (encoding_p1 t b off cap R k w0 w E hB h hk hw).mono fun _ _ z => ⟨⟨z.1, z.2.1⟩, z.2.2⟩
  cases hs : seesB t (whiteTo t k) [101, 110, 99, 111, 100, 105, 110, 103]
  · rw [if_pos (.inr rfl)]
    exact (encoding_p2 t b off cap R k w0 w E hB h hk hw hs).mono fun _ _ z => ⟨⟨z.1, z.2.1⟩, z.2.2⟩
  · rw [if_neg (by rintro (g | g); exact hw g; cases g)]
    cases he : equalsF t (whiteTo t k + 8) with
    | none =>
      exact (encoding_p3 t b off cap R k w0 w E hB h hk hw hs he).mono fun _ _ z => ⟨⟨z.1, z.2.1⟩, z.2.2⟩
    | some i =>
      simp only
      cases hq : quotedF t i with
      | none => exact (encoding_p4 t b off cap R k w0 w E hB h hk i hw hs he hq).mono fun _ _ z => ⟨⟨z.1, z.2.1⟩, z.2.2⟩
      | some q =>
        obtain ⟨raw, m⟩ := q
        simp only
        cases hri : encodingB raw
        · exact (encoding_p5 t b off cap R k w0 w E hB h hk raw i m hw hs he hq hri).mono fun _ _ z => ⟨⟨z.1, z.2.1⟩, z.2.2⟩
        · exact (encoding_p6 t b off cap R k w0 w E hB h hk raw i m hw hs he hq hri).mono fun _ _ z => ⟨⟨z.1, z.2.1⟩, z.2.2⟩
set_option maxHeartbeats 2000000 in
set_option maxRecDepth 100000 in
theorem standalone_p1 (t : ByteArray) (b off cap R k : Nat) (w0 w : World) (E : Env w0 R b off cap t) (hB : Below w0.heap.size w0 w) (h : Rd w R (rv b off cap t) k) (hk : k ≤ t.size) (hw : whiteTo t k = k) :
    Calls Tryz.prog 39 #[.pointer (some ⟨R, 0, none⟩), .string ⟨#[115, 116, 97, 110, 100, 97, 108, 111, 110, 101]⟩, .func (.func 42) #[] #[]] w fun e w' => e = .returned (.tuple #[.agg #[.string ⟨#[]⟩, .string ⟨#[]⟩], .bool false]) ∧ Rd w' R (rv b off cap t) k ∧ Moved R w w' := by
  have BL := Lib.hid (fun W g (y : Txt W b off cap t) => blanks_any t b off cap R k W g hk y E.ne)
  have hgb : decide (k < whiteTo t k) = false := decide_eq_false (by omega)
  rw [hgb] at BL
  clear hgb hw
  have HE := Lib.hid (And.intro E (And.intro hB h))
  clear h E hB hk
  go_enter Tryz.func39, Tryz.ntmps39
  go_upto_region 1 with fail
  obtain ⟨W1, hW1⟩ : ∃ W, w.alloc PAIR0 = W := ⟨_, rfl⟩
  rw [hW1]
  have S1 := Lib.hid (St.first HE.out.1 HE.out.2.1 HE.out.2.2 hW1)
  clear hW1
  have p1 := S1.out.rd.place
  go_wp2_with (fail)
  refine (BL.out W1 S1.out.rd S1.out.txt).mono ?_
  rintro e w2 ⟨rfl, hr, hm⟩
  clear p1
  have S2 := Lib.hid (S1.out.moved hr hm)
  clear hr hm
  have hr := S2.out.rd
  have p2 := hr.place
  have pf := hr.free
  have hset := hr.set k
  have S8 := Lib.hid (S2.out.moved hset.1 hset.2)
  clear hset hr
  go_upto_region 7 with fail
  obtain ⟨w8, hw8⟩ : ∃ W, w2.setCell ⟨R, 1, none⟩ (.int .i64 (k : Int)) = W := ⟨_, rfl⟩
  rw [hw8] at S8 ⊢
  clear hw8 p2 pf
  obtain ⟨⟨c0, c1⟩, ⟨f0, f1⟩⟩ := two_cells S8.out.out
  go_wp2_with (fail)
  change bodyPost _ _ _ _ _ (setPair w8 w.heap.size ⟨#[]⟩ ⟨#[]⟩)
  obtain ⟨w9, hw9⟩ : ∃ W, setPair w8 w.heap.size ⟨#[]⟩ ⟨#[]⟩ = W := ⟨_, rfl⟩
  obtain ⟨r9, m9⟩ := setPair_row ⟨#[]⟩ ⟨#[]⟩ S8.out.out
  rw [hw9] at r9 m9 ⊢
  obtain ⟨⟨d0, d1⟩, _⟩ := two_cells r9
  refine bodyPost_ret (v := .tuple #[.agg #[.string ⟨#[]⟩, .string ⟨#[]⟩], .bool false]) ?_ rfl ?_
  · rw [results_cell_tmp rfl]
    go_simp
  · obtain ⟨z1, z2⟩ := S8.out.laid m9
    exact ⟨rfl, z1, z2⟩
set_option maxHeartbeats 2000000 in
set_option maxRecDepth 100000 in
theorem standalone_p2 (t : ByteArray) (b off cap R k : Nat) (w0 w : World) (E : Env w0 R b off cap t) (hB : Below w0.heap.size w0 w) (h : Rd w R (rv b off cap t) k) (hk : k ≤ t.size) (hw : ¬ whiteTo t k = k) (hs : seesB t (whiteTo t k) [115, 116, 97, 110, 100, 97, 108, 111, 110, 101] = false) :
    Calls Tryz.prog 39 #[.pointer (some ⟨R, 0, none⟩), .string ⟨#[115, 116, 97, 110, 100, 97, 108, 111, 110, 101]⟩, .func (.func 42) #[] #[]] w fun e w' => e = .returned (.tuple #[.agg #[.string ⟨#[]⟩, .string ⟨#[]⟩], .bool false]) ∧ Rd w' R (rv b off cap t) k ∧ Moved R w w' := by
  have hwl := white_le hk
  have hwg := white_ge t k
  have BL := Lib.hid (fun W g (y : Txt W b off cap t) => blanks_any t b off cap R k W g hk y E.ne)
  have hgb : decide (k < whiteTo t k) = true := decide_eq_true (by omega)
  rw [hgb] at BL
  clear hgb hw
  have TK := Lib.hid (fun W g (y : Txt W b off cap t) => take_no t ⟨#[115, 116, 97, 110, 100, 97, 108, 111, 110, 101]⟩ b off cap R (whiteTo t k) W g hwl y hs)
  have HE := Lib.hid (And.intro E (And.intro hB h))
  clear h E hB hk hs hwg
  go_enter Tryz.func39, Tryz.ntmps39
  go_upto_region 1 with fail
  obtain ⟨W1, hW1⟩ : ∃ W, w.alloc PAIR0 = W := ⟨_, rfl⟩
  rw [hW1]
  have S1 := Lib.hid (St.first HE.out.1 HE.out.2.1 HE.out.2.2 hW1)
  clear hW1
  have p1 := S1.out.rd.place
  go_wp2_with (fail)
  refine (BL.out W1 S1.out.rd S1.out.txt).mono ?_
  rintro e w2 ⟨rfl, hr, hm⟩
  clear p1
  have S2 := Lib.hid (S1.out.moved hr hm)
  clear hr hm
  go_wp2_with (fail)
  refine (TK.out w2 S2.out.rd S2.out.txt).mono ?_
  rintro e w3 ⟨rfl, hr, hm⟩
  have S3 := Lib.hid (S2.out.moved hr hm)
  clear hr hm
  have hr := S3.out.rd
  have p2 := hr.place
  have pf := hr.free
  have hset := hr.set k
  have S8 := Lib.hid (S3.out.moved hset.1 hset.2)
  clear hset hr
  go_upto_region 7 with fail
  obtain ⟨w8, hw8⟩ : ∃ W, w3.setCell ⟨R, 1, none⟩ (.int .i64 (k : Int)) = W := ⟨_, rfl⟩
  rw [hw8] at S8 ⊢
  clear hw8 p2 pf
  obtain ⟨⟨c0, c1⟩, ⟨f0, f1⟩⟩ := two_cells S8.out.out
  go_wp2_with (fail)
  change bodyPost _ _ _ _ _ (setPair w8 w.heap.size ⟨#[]⟩ ⟨#[]⟩)
  obtain ⟨w9, hw9⟩ : ∃ W, setPair w8 w.heap.size ⟨#[]⟩ ⟨#[]⟩ = W := ⟨_, rfl⟩
  obtain ⟨r9, m9⟩ := setPair_row ⟨#[]⟩ ⟨#[]⟩ S8.out.out
  rw [hw9] at r9 m9 ⊢
  obtain ⟨⟨d0, d1⟩, _⟩ := two_cells r9
  refine bodyPost_ret (v := .tuple #[.agg #[.string ⟨#[]⟩, .string ⟨#[]⟩], .bool false]) ?_ rfl ?_
  · rw [results_cell_tmp rfl]
    go_simp
  · obtain ⟨z1, z2⟩ := S8.out.laid m9
    exact ⟨rfl, z1, z2⟩
set_option maxHeartbeats 2000000 in
set_option maxRecDepth 100000 in
theorem standalone_p3 (t : ByteArray) (b off cap R k : Nat) (w0 w : World) (E : Env w0 R b off cap t) (hB : Below w0.heap.size w0 w) (h : Rd w R (rv b off cap t) k) (hk : k ≤ t.size) (hw : ¬ whiteTo t k = k) (hs : seesB t (whiteTo t k) [115, 116, 97, 110, 100, 97, 108, 111, 110, 101] = true) (he : equalsF t (whiteTo t k + 10) = none) :
    Calls Tryz.prog 39 #[.pointer (some ⟨R, 0, none⟩), .string ⟨#[115, 116, 97, 110, 100, 97, 108, 111, 110, 101]⟩, .func (.func 42) #[] #[]] w fun e w' => e = .returned (.tuple #[.agg #[.string ⟨#[]⟩, .string ⟨#[]⟩], .bool false]) ∧ Rd w' R (rv b off cap t) k ∧ Moved R w w' := by
  have hwl := white_le hk
  have hwg := white_ge t k
  have BL := Lib.hid (fun W g (y : Txt W b off cap t) => blanks_any t b off cap R k W g hk y E.ne)
  have hgb : decide (k < whiteTo t k) = true := decide_eq_true (by omega)
  rw [hgb] at BL
  clear hgb hw
  have TK := Lib.hid (fun W g (y : Txt W b off cap t) => take_yes t ⟨#[115, 116, 97, 110, 100, 97, 108, 111, 110, 101]⟩ b off cap R (whiteTo t k) W g hwl y (by decide) hs)
  have hr0 : whiteTo t k + 10 ≤ t.size := sees_room hwl hs
  have EQ := Lib.hid (fun W g (y : Txt W b off cap t) => equals_no t b off cap R (whiteTo t k + 10) W g hr0 y E.ne he)
  have HE := Lib.hid (And.intro E (And.intro hB h))
  clear h E hB hk hs hwg he hr0
  go_enter Tryz.func39, Tryz.ntmps39
  go_upto_region 1 with fail
  obtain ⟨W1, hW1⟩ : ∃ W, w.alloc PAIR0 = W := ⟨_, rfl⟩
  rw [hW1]
  have S1 := Lib.hid (St.first HE.out.1 HE.out.2.1 HE.out.2.2 hW1)
  clear hW1
  have p1 := S1.out.rd.place
  go_wp2_with (fail)
  refine (BL.out W1 S1.out.rd S1.out.txt).mono ?_
  rintro e w2 ⟨rfl, hr, hm⟩
  clear p1
  have S2 := Lib.hid (S1.out.moved hr hm)
  clear hr hm
  go_wp2_with (fail)
  refine (TK.out w2 S2.out.rd S2.out.txt).mono ?_
  rintro e w3 ⟨rfl, hr, hm⟩
  have S3 := Lib.hid (S2.out.moved hr hm)
  clear hr hm
  go_wp2_with (fail)
  refine (EQ.out w3 S3.out.rd S3.out.txt).mono ?_
  rintro e w4 ⟨rfl, ⟨j, hj, hr⟩, hm⟩
  have S4 := Lib.hid (S3.out.moved hr hm)
  clear hr hm
  have hr := S4.out.rd
  have p2 := hr.place
  have pf := hr.free
  have hset := hr.set k
  have S8 := Lib.hid (S4.out.moved hset.1 hset.2)
  clear hset hr
  go_upto_region 7 with fail
  obtain ⟨w8, hw8⟩ : ∃ W, w4.setCell ⟨R, 1, none⟩ (.int .i64 (k : Int)) = W := ⟨_, rfl⟩
  rw [hw8] at S8 ⊢
  clear hw8 p2 pf
  obtain ⟨⟨c0, c1⟩, ⟨f0, f1⟩⟩ := two_cells S8.out.out
  go_wp2_with (fail)
  change bodyPost _ _ _ _ _ (setPair w8 w.heap.size ⟨#[]⟩ ⟨#[]⟩)
  obtain ⟨w9, hw9⟩ : ∃ W, setPair w8 w.heap.size ⟨#[]⟩ ⟨#[]⟩ = W := ⟨_, rfl⟩
  obtain ⟨r9, m9⟩ := setPair_row ⟨#[]⟩ ⟨#[]⟩ S8.out.out
  rw [hw9] at r9 m9 ⊢
  obtain ⟨⟨d0, d1⟩, _⟩ := two_cells r9
  refine bodyPost_ret (v := .tuple #[.agg #[.string ⟨#[]⟩, .string ⟨#[]⟩], .bool false]) ?_ rfl ?_
  · rw [results_cell_tmp rfl]
    go_simp
  · obtain ⟨z1, z2⟩ := S8.out.laid m9
    exact ⟨rfl, z1, z2⟩
set_option maxHeartbeats 2000000 in
set_option maxRecDepth 100000 in
theorem standalone_p4 (t : ByteArray) (b off cap R k : Nat) (w0 w : World) (E : Env w0 R b off cap t) (hB : Below w0.heap.size w0 w) (h : Rd w R (rv b off cap t) k) (hk : k ≤ t.size) (i : Nat) (hw : ¬ whiteTo t k = k) (hs : seesB t (whiteTo t k) [115, 116, 97, 110, 100, 97, 108, 111, 110, 101] = true) (he : equalsF t (whiteTo t k + 10) = some i) (hq : quotedF t i = none) :
    Calls Tryz.prog 39 #[.pointer (some ⟨R, 0, none⟩), .string ⟨#[115, 116, 97, 110, 100, 97, 108, 111, 110, 101]⟩, .func (.func 42) #[] #[]] w fun e w' => e = .returned (.tuple #[.agg #[.string ⟨#[]⟩, .string ⟨#[]⟩], .bool false]) ∧ Rd w' R (rv b off cap t) k ∧ Moved R w w' := by
  have hwl := white_le hk
  have hwg := white_ge t k
  have BL := Lib.hid (fun W g (y : Txt W b off cap t) => blanks_any t b off cap R k W g hk y E.ne)
  have hgb : decide (k < whiteTo t k) = true := decide_eq_true (by omega)
  rw [hgb] at BL
  clear hgb hw
  have TK := Lib.hid (fun W g (y : Txt W b off cap t) => take_yes t ⟨#[115, 116, 97, 110, 100, 97, 108, 111, 110, 101]⟩ b off cap R (whiteTo t k) W g hwl y (by decide) hs)
  have hr0 : whiteTo t k + 10 ≤ t.size := sees_room hwl hs
  have EQ := Lib.hid (fun W g (y : Txt W b off cap t) => equals_yes t b off cap R (whiteTo t k + 10) i W g hr0 y E.ne he)
  have hi := (equals_ok hr0 he).2
  have QU := Lib.hid (fun W g (y : Below w0.heap.size w0 W) => quoted_no t b off cap R i w0 W E y g hi hq)
  have HE := Lib.hid (And.intro E (And.intro hB h))
  clear h E hB hk hs hwg he hr0 hq
  go_enter Tryz.func39, Tryz.ntmps39
  go_upto_region 1 with fail
  obtain ⟨W1, hW1⟩ : ∃ W, w.alloc PAIR0 = W := ⟨_, rfl⟩
  rw [hW1]
  have S1 := Lib.hid (St.first HE.out.1 HE.out.2.1 HE.out.2.2 hW1)
  clear hW1
  have p1 := S1.out.rd.place
  go_wp2_with (fail)
  refine (BL.out W1 S1.out.rd S1.out.txt).mono ?_
  rintro e w2 ⟨rfl, hr, hm⟩
  clear p1
  have S2 := Lib.hid (S1.out.moved hr hm)
  clear hr hm
  go_wp2_with (fail)
  refine (TK.out w2 S2.out.rd S2.out.txt).mono ?_
  rintro e w3 ⟨rfl, hr, hm⟩
  have S3 := Lib.hid (S2.out.moved hr hm)
  clear hr hm
  go_wp2_with (fail)
  refine (EQ.out w3 S3.out.rd S3.out.txt).mono ?_
  rintro e w4 ⟨rfl, hr, hm⟩
  have S4 := Lib.hid (S3.out.moved hr hm)
  clear hr hm
  go_wp2_with (fail)
  refine (QU.out w4 S4.out.rd S4.out.below).mono ?_
  rintro e w5 ⟨⟨q, n4, c, rfl⟩, ⟨j4, hj4, hr⟩, hm⟩
  have S5 := Lib.hid (S4.out.moved hr hm)
  clear hr hm
  have hr := S5.out.rd
  have p2 := hr.place
  have pf := hr.free
  have hset := hr.set k
  have S8 := Lib.hid (S5.out.moved hset.1 hset.2)
  clear hset hr
  go_upto_region 7 with fail
  obtain ⟨w8, hw8⟩ : ∃ W, w5.setCell ⟨R, 1, none⟩ (.int .i64 (k : Int)) = W := ⟨_, rfl⟩
  rw [hw8] at S8 ⊢
  clear hw8 p2 pf
  obtain ⟨⟨c0, c1⟩, ⟨f0, f1⟩⟩ := two_cells S8.out.out
  go_wp2_with (fail)
  change bodyPost _ _ _ _ _ (setPair w8 w.heap.size ⟨#[]⟩ ⟨#[]⟩)
  obtain ⟨w9, hw9⟩ : ∃ W, setPair w8 w.heap.size ⟨#[]⟩ ⟨#[]⟩ = W := ⟨_, rfl⟩
  obtain ⟨r9, m9⟩ := setPair_row ⟨#[]⟩ ⟨#[]⟩ S8.out.out
  rw [hw9] at r9 m9 ⊢
  obtain ⟨⟨d0, d1⟩, _⟩ := two_cells r9
  refine bodyPost_ret (v := .tuple #[.agg #[.string ⟨#[]⟩, .string ⟨#[]⟩], .bool false]) ?_ rfl ?_
  · rw [results_cell_tmp rfl]
    go_simp
  · obtain ⟨z1, z2⟩ := S8.out.laid m9
    exact ⟨rfl, z1, z2⟩
set_option maxHeartbeats 2000000 in
set_option maxRecDepth 100000 in
theorem standalone_p5 (t : ByteArray) (b off cap R k : Nat) (w0 w : World) (E : Env w0 R b off cap t) (hB : Below w0.heap.size w0 w) (h : Rd w R (rv b off cap t) k) (hk : k ≤ t.size) (raw : ByteArray) (i m : Nat) (hw : ¬ whiteTo t k = k) (hs : seesB t (whiteTo t k) [115, 116, 97, 110, 100, 97, 108, 111, 110, 101] = true) (he : equalsF t (whiteTo t k + 10) = some i) (hq : quotedF t i = some (raw, m)) (hri : aloneB raw = false) :
    Calls Tryz.prog 39 #[.pointer (some ⟨R, 0, none⟩), .string ⟨#[115, 116, 97, 110, 100, 97, 108, 111, 110, 101]⟩, .func (.func 42) #[] #[]] w fun e w' => e = .returned (.tuple #[.agg #[.string ⟨#[]⟩, .string ⟨#[]⟩], .bool false]) ∧ Rd w' R (rv b off cap t) k ∧ Moved R w w' := by
  have hwl := white_le hk
  have hwg := white_ge t k
  have BL := Lib.hid (fun W g (y : Txt W b off cap t) => blanks_any t b off cap R k W g hk y E.ne)
  have hgb : decide (k < whiteTo t k) = true := decide_eq_true (by omega)
  rw [hgb] at BL
  clear hgb hw
  have TK := Lib.hid (fun W g (y : Txt W b off cap t) => take_yes t ⟨#[115, 116, 97, 110, 100, 97, 108, 111, 110, 101]⟩ b off cap R (whiteTo t k) W g hwl y (by decide) hs)
  have hr0 : whiteTo t k + 10 ≤ t.size := sees_room hwl hs
  have EQ := Lib.hid (fun W g (y : Txt W b off cap t) => equals_yes t b off cap R (whiteTo t k + 10) i W g hr0 y E.ne he)
  have hi := (equals_ok hr0 he).2
  have QU := Lib.hid (fun W g (y : Below w0.heap.size w0 W) => quoted_yes t b off cap R i raw m w0 W E y g hi hq)
  have hrs : raw.size ≤ 4194304 := by
    have h1 := (quoted_ok hi hq).2.2
    have h2 := E.txt.small
    omega
  have RT := fun W => alone_any raw W
  rw [hri] at RT
  have RTH := Lib.hid RT
  clear RT
  have HE := Lib.hid (And.intro E (And.intro hB h))
  clear h E hB hk hs hwg he hr0 hq hri hrs
  go_enter Tryz.func39, Tryz.ntmps39
  go_upto_region 1 with fail
  obtain ⟨W1, hW1⟩ : ∃ W, w.alloc PAIR0 = W := ⟨_, rfl⟩
  rw [hW1]
  have S1 := Lib.hid (St.first HE.out.1 HE.out.2.1 HE.out.2.2 hW1)
  clear hW1
  have p1 := S1.out.rd.place
  go_wp2_with (fail)
  refine (BL.out W1 S1.out.rd S1.out.txt).mono ?_
  rintro e w2 ⟨rfl, hr, hm⟩
  clear p1
  have S2 := Lib.hid (S1.out.moved hr hm)
  clear hr hm
  go_wp2_with (fail)
  refine (TK.out w2 S2.out.rd S2.out.txt).mono ?_
  rintro e w3 ⟨rfl, hr, hm⟩
  have S3 := Lib.hid (S2.out.moved hr hm)
  clear hr hm
  go_wp2_with (fail)
  refine (EQ.out w3 S3.out.rd S3.out.txt).mono ?_
  rintro e w4 ⟨rfl, hr, hm⟩
  have S4 := Lib.hid (S3.out.moved hr hm)
  clear hr hm
  go_wp2_with (fail)
  refine (QU.out w4 S4.out.rd S4.out.below).mono ?_
  rintro e w5 ⟨⟨q, c, rfl, q1, q2, q3⟩, hr, hj9, hm⟩
  have S5 := Lib.hid (S4.out.moved hr hm)
  clear hr hm
  have hcv := conv_str q1 c (fun e => absurd e q3)
  clear q1 q2 q3
  go_wp2_with (fail)
  refine (RTH.out w5).mono ?_
  rintro e w6 ⟨rfl, hw6⟩
  subst hw6
  clear hcv
  have hr := S5.out.rd
  have p2 := hr.place
  have pf := hr.free
  have hset := hr.set k
  have S8 := Lib.hid (S5.out.moved hset.1 hset.2)
  clear hset hr
  go_upto_region 7 with fail
  obtain ⟨w8, hw8⟩ : ∃ W, w5.setCell ⟨R, 1, none⟩ (.int .i64 (k : Int)) = W := ⟨_, rfl⟩
  rw [hw8] at S8 ⊢
  clear hw8 p2 pf
  obtain ⟨⟨c0, c1⟩, ⟨f0, f1⟩⟩ := two_cells S8.out.out
  go_wp2_with (fail)
  change bodyPost _ _ _ _ _ (setPair w8 w.heap.size ⟨#[]⟩ ⟨#[]⟩)
  obtain ⟨w9, hw9⟩ : ∃ W, setPair w8 w.heap.size ⟨#[]⟩ ⟨#[]⟩ = W := ⟨_, rfl⟩
  obtain ⟨r9, m9⟩ := setPair_row ⟨#[]⟩ ⟨#[]⟩ S8.out.out
  rw [hw9] at r9 m9 ⊢
  obtain ⟨⟨d0, d1⟩, _⟩ := two_cells r9
  refine bodyPost_ret (v := .tuple #[.agg #[.string ⟨#[]⟩, .string ⟨#[]⟩], .bool false]) ?_ rfl ?_
  · rw [results_cell_tmp rfl]
    go_simp
  · obtain ⟨z1, z2⟩ := S8.out.laid m9
    exact ⟨rfl, z1, z2⟩
set_option maxHeartbeats 2000000 in
set_option maxRecDepth 100000 in
theorem standalone_p6 (t : ByteArray) (b off cap R k : Nat) (w0 w : World) (E : Env w0 R b off cap t) (hB : Below w0.heap.size w0 w) (h : Rd w R (rv b off cap t) k) (hk : k ≤ t.size) (raw : ByteArray) (i m : Nat) (hw : ¬ whiteTo t k = k) (hs : seesB t (whiteTo t k) [115, 116, 97, 110, 100, 97, 108, 111, 110, 101] = true) (he : equalsF t (whiteTo t k + 10) = some i) (hq : quotedF t i = some (raw, m)) (hri : aloneB raw = true) :
    Calls Tryz.prog 39 #[.pointer (some ⟨R, 0, none⟩), .string ⟨#[115, 116, 97, 110, 100, 97, 108, 111, 110, 101]⟩, .func (.func 42) #[] #[]] w fun e w' => e = .returned (.tuple #[.agg #[.string ⟨#[115, 116, 97, 110, 100, 97, 108, 111, 110, 101]⟩, .string raw], .bool true]) ∧ Rd w' R (rv b off cap t) m ∧ Moved R w w' := by
  have hwl := white_le hk
  have hwg := white_ge t k
  have BL := Lib.hid (fun W g (y : Txt W b off cap t) => blanks_any t b off cap R k W g hk y E.ne)
  have hgb : decide (k < whiteTo t k) = true := decide_eq_true (by omega)
  rw [hgb] at BL
  clear hgb hw
  have TK := Lib.hid (fun W g (y : Txt W b off cap t) => take_yes t ⟨#[115, 116, 97, 110, 100, 97, 108, 111, 110, 101]⟩ b off cap R (whiteTo t k) W g hwl y (by decide) hs)
  have hr0 : whiteTo t k + 10 ≤ t.size := sees_room hwl hs
  have EQ := Lib.hid (fun W g (y : Txt W b off cap t) => equals_yes t b off cap R (whiteTo t k + 10) i W g hr0 y E.ne he)
  have hi := (equals_ok hr0 he).2
  have QU := Lib.hid (fun W g (y : Below w0.heap.size w0 W) => quoted_yes t b off cap R i raw m w0 W E y g hi hq)
  have hrs : raw.size ≤ 4194304 := by
    have h1 := (quoted_ok hi hq).2.2
    have h2 := E.txt.small
    omega
  have RT := fun W => alone_any raw W
  rw [hri] at RT
  have RTH := Lib.hid RT
  clear RT
  have HE := Lib.hid (And.intro E (And.intro hB h))
  clear h E hB hk hs hwg he hr0 hq hri hrs
  go_enter Tryz.func39, Tryz.ntmps39
  go_upto_region 1 with fail
  obtain ⟨W1, hW1⟩ : ∃ W, w.alloc PAIR0 = W := ⟨_, rfl⟩
  rw [hW1]
  have S1 := Lib.hid (St.first HE.out.1 HE.out.2.1 HE.out.2.2 hW1)
  clear hW1
  have p1 := S1.out.rd.place
  go_wp2_with (fail)
  refine (BL.out W1 S1.out.rd S1.out.txt).mono ?_
  rintro e w2 ⟨rfl, hr, hm⟩
  clear p1
  have S2 := Lib.hid (S1.out.moved hr hm)
  clear hr hm
  go_wp2_with (fail)
  refine (TK.out w2 S2.out.rd S2.out.txt).mono ?_
  rintro e w3 ⟨rfl, hr, hm⟩
  have S3 := Lib.hid (S2.out.moved hr hm)
  clear hr hm
  go_wp2_with (fail)
  refine (EQ.out w3 S3.out.rd S3.out.txt).mono ?_
  rintro e w4 ⟨rfl, hr, hm⟩
  have S4 := Lib.hid (S3.out.moved hr hm)
  clear hr hm
  go_wp2_with (fail)
  refine (QU.out w4 S4.out.rd S4.out.below).mono ?_
  rintro e w5 ⟨⟨q, c, rfl, q1, q2, q3⟩, hr, hj9, hm⟩
  have S5 := Lib.hid (S4.out.moved hr hm)
  clear hr hm
  have hcv := conv_str q1 c (fun e => absurd e q3)
  clear q1 q2 q3
  go_wp2_with (fail)
  refine (RTH.out w5).mono ?_
  rintro e w6 ⟨rfl, hw6⟩
  subst hw6
  obtain ⟨⟨c0, c1⟩, ⟨f0, f1⟩⟩ := two_cells S5.out.out
  go_wp2_with (fail)
  change bodyPost _ _ _ _ _ (setPair w5 w.heap.size ⟨#[115, 116, 97, 110, 100, 97, 108, 111, 110, 101]⟩ raw)
  obtain ⟨w9, hw9⟩ : ∃ W, setPair w5 w.heap.size ⟨#[115, 116, 97, 110, 100, 97, 108, 111, 110, 101]⟩ raw = W := ⟨_, rfl⟩
  obtain ⟨r9, m9⟩ := setPair_row ⟨#[115, 116, 97, 110, 100, 97, 108, 111, 110, 101]⟩ raw S5.out.out
  rw [hw9] at r9 m9 ⊢
  obtain ⟨⟨d0, d1⟩, _⟩ := two_cells r9
  refine bodyPost_ret (v := .tuple #[.agg #[.string ⟨#[115, 116, 97, 110, 100, 97, 108, 111, 110, 101]⟩, .string raw], .bool true]) ?_ rfl ?_
  · rw [results_cell_tmp rfl]
    go_simp
  · obtain ⟨z1, z2⟩ := S5.out.laid m9
    exact ⟨rfl, z1, z2⟩
theorem standalone_prop (t : ByteArray) (b off cap R k : Nat) (w0 w : World) (E : Env w0 R b off cap t) (hB : Below w0.heap.size w0 w) (h : Rd w R (rv b off cap t) k) (hk : k ≤ t.size) :
    Calls Tryz.prog 39 #[.pointer (some ⟨R, 0, none⟩), .string ⟨#[115, 116, 97, 110, 100, 97, 108, 111, 110, 101]⟩, .func (.func 42) #[] #[]] w fun e w' => PropPost R b off cap k t (propF t k [115, 116, 97, 110, 100, 97, 108, 111, 110, 101] aloneB) e w' ∧ Moved R w w' := by
  unfold propF
  by_cases hw : whiteTo t k = k
  · rw [if_pos (.inl hw)]
    exact (standalone_p1 t b off cap R k w0 w E hB h hk hw).mono fun _ _ z => ⟨⟨z.1, z.2.1⟩, z.2.2⟩
  cases hs : seesB t (whiteTo t k) [115, 116, 97, 110, 100, 97, 108, 111, 110, 101]
  · rw [if_pos (.inr rfl)]
    exact (standalone_p2 t b off cap R k w0 w E hB h hk hw hs).mono fun _ _ z => ⟨⟨z.1, z.2.1⟩, z.2.2⟩
  · rw [if_neg (by rintro (g | g); exact hw g; cases g)]
    cases he : equalsF t (whiteTo t k + 10) with
    | none =>
      exact (standalone_p3 t b off cap R k w0 w E hB h hk hw hs he).mono fun _ _ z => ⟨⟨z.1, z.2.1⟩, z.2.2⟩
    | some i =>
      simp only
      cases hq : quotedF t i with
      | none => exact (standalone_p4 t b off cap R k w0 w E hB h hk i hw hs he hq).mono fun _ _ z => ⟨⟨z.1, z.2.1⟩, z.2.2⟩
      | some q =>
        obtain ⟨raw, m⟩ := q
        simp only
        cases hri : aloneB raw
        · exact (standalone_p5 t b off cap R k w0 w E hB h hk raw i m hw hs he hq hri).mono fun _ _ z => ⟨⟨z.1, z.2.1⟩, z.2.2⟩
        · exact (standalone_p6 t b off cap R k w0 w E hB h hk raw i m hw hs he hq hri).mono fun _ _ z => ⟨⟨z.1, z.2.1⟩, z.2.2⟩
end Go.Proofs.YteipiaefamfleaaGreatDoor
