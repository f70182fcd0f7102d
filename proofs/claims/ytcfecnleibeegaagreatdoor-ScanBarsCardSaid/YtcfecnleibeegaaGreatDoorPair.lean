/- Proved here: the reader's pair: what it reads, where it leaves the reader. -/
import Derived.Test.YtcfecnleibeegaaGreatDoorTokKit
import Derived.Test.YtcfecnleibeegaaGreatDoorReadValue
import Derived.Test.YtcfecnleibeegaaGreatDoorReadText
namespace Go.Proofs.YtcfecnleibeegaaGreatDoor
open Go.RowKit

theorem numOut_nn (s : ByteArray) (first : Nat) (r : Nat × Nat) : 0 ≤ (numOut s first r).2.2 := by
  unfold numOut
  split
  · simp
  · split <;> simp
theorem namedGo_nn (s : ByteArray) (at_ : Nat) : ∀ m, 0 ≤ (namedGo s at_ m).2.2
  | 0 => by simp [namedGo]
  | m + 1 => by
    rw [namedGo]
    split
    · simp
    · exact namedGo_nn s at_ m
theorem expF_nn (s : ByteArray) (at_ : Nat) : 0 ≤ (expF s at_).2.2 := by
  unfold expF
  split
  · unfold numF
    split <;> exact numOut_nn _ _ _
  · exact namedGo_nn s at_ 5
theorem bothF_nn (s : ByteArray) (at_ : Nat) : 0 ≤ (bothF s at_).2.2 := by
  unfold bothF
  split
  · simp
  · split
    · exact expF_nn s at_
    · exact Int.natCast_nonneg _
theorem stepV_nn (s : ByteArray) (at_ : Nat) : 0 ≤ (stepV s at_).2.2 := by
  unfold stepV
  split
  · simp
  · exact bothF_nn s at_
theorem stepT_nn (s : ByteArray) (at_ : Nat) : 0 ≤ (stepT s at_).2.2 := by
  unfold stepT
  split
  · simp
  · exact bothF_nn s at_
theorem readGo_nn {step : Nat → Int × Int × Int} (hs : ∀ j, 0 ≤ (step j).2.2) (n : Nat) : ∀ k pos out, 0 ≤ (readGo step n k pos out).2.2
  | 0, pos, out => by simp [readGo]
  | k + 1, pos, out => by
    rw [readGo]
    split
    · split
      · exact readGo_nn hs n k _ _
      · exact hs pos
    · simp
theorem readV_nn (s : ByteArray) : 0 ≤ (readF (stepV s) s.size).2.2 := readGo_nn (stepV_nn s) _ _ _ _
theorem readT_nn (s : ByteArray) : 0 ≤ (readF (stepT s) s.size).2.2 := readGo_nn (stepT_nn s) _ _ _ _
theorem qual_err {t : ByteArray} {k e : Nat} (h : qualF t k = .error e) : e = 23 ∨ e = 24 := by
  unfold qualF at h
  split at h
  · rename_i e' hn
    injection h with h
    exact .inl (h.symm.trans (name_err hn))
  · split at h
    · cases h
    · injection h with h
      exact .inr h.symm
def PairPost (R b off cap : Nat) (t : ByteArray) (r : Except Nat ((ByteArray × ByteArray) × Nat)) (e : Ending) (w' : World) : Prop := match r with
  | .ok (p, i) => e = .returned (.tuple #[.agg #[.string p.1, .string p.2], .int .i64 0]) ∧ Rd w' R (rv b off cap t) i
  | .error e0 => e = .returned (.tuple #[.agg #[.string ⟨#[]⟩, .string ⟨#[]⟩], .int .i64 (e0 : Int)])
theorem qual_post {R b off cap k i : Nat} {t n : ByteArray} {e : Ending} {w' : World} (hq : qualF t k = .ok (n, i)) (h : NamePost R b off cap t (qualF t k) e w') : e = .returned (.tuple #[.string n, .int .i64 0]) ∧ Rd w' R (rv b off cap t) i := by
  rw [hq] at h
  exact h
theorem qual_post_no {R b off cap k e0 : Nat} {t : ByteArray} {e : Ending} {w' : World} (hq : qualF t k = .error e0) (h : NamePost R b off cap t (qualF t k) e w') : e = .returned (.tuple #[.string ⟨#[]⟩, .int .i64 (e0 : Int)]) ∧ ∃ j, j ≤ t.size ∧ Rd w' R (rv b off cap t) j := by
  rw [hq] at h
  exact h

set_option maxHeartbeats 1000000 in
theorem pair_name23 (t : ByteArray) (b off cap R k : Nat) (w0 w : World) (E : Env w0 R b off cap t) (hB : Below w0.heap.size w0 w) (h : Rd w R (rv b off cap t) k) (hk : k ≤ t.size) (hn : qualF t k = .error 23) :
    Calls Tryz.prog 79 #[.pointer (some ⟨R, 0, none⟩)] w fun e w' => e = .returned (.tuple #[.agg #[.string ⟨#[]⟩, .string ⟨#[]⟩], .int .i64 23]) ∧ Moved R w w' := by
  have Q := Lib.hid (fun W g (y : Below w0.heap.size w0 W) => (qual_any t b off cap R k w0 W E y g hk).mono fun _ _ z => And.intro (qual_post_no hn z.1) z.2)
  have HE := Lib.hid (And.intro E (And.intro hB h))
  clear h E hB hn
  go_enter Tryz.func79, Tryz.ntmps79
  go_wp2_with (fail)
  obtain ⟨W1, hW1⟩ : ∃ W, w.alloc PAIR0 = W := ⟨_, rfl⟩
  rw [hW1]
  have S1 := Lib.hid (St.first HE.out.1 HE.out.2.1 HE.out.2.2 hW1)
  clear hW1
  refine (Q.out W1 S1.out.rd S1.out.below).mono ?_
  rintro e w2 ⟨⟨rfl, j, hj, hr2⟩, hm2⟩
  have S2 := Lib.hid (S1.out.moved hr2 hm2)
  clear hr2 hm2
  obtain ⟨⟨c0, c1⟩, ⟨f0, f1⟩⟩ := two_cells S2.out.out
  go_wp2_with (fail)
  change bodyPost _ _ _ _ _ (setPair w2 w.heap.size ⟨#[]⟩ ⟨#[]⟩)
  obtain ⟨w9, hw9⟩ : ∃ W, setPair w2 w.heap.size ⟨#[]⟩ ⟨#[]⟩ = W := ⟨_, rfl⟩
  obtain ⟨r9, m9⟩ := setPair_row ⟨#[]⟩ ⟨#[]⟩ S2.out.out
  rw [hw9] at r9 m9 ⊢
  obtain ⟨⟨d0, d1⟩, _⟩ := two_cells r9
  refine bodyPost_ret (v := .tuple #[.agg #[.string ⟨#[]⟩, .string ⟨#[]⟩], .int .i64 23]) ?_ rfl ?_
  · rw [results_cell_tmp rfl]
    go_simp
  · obtain ⟨z1, z2⟩ := S2.out.laid m9
    exact ⟨rfl, z2⟩
set_option maxHeartbeats 1000000 in
theorem pair_name24 (t : ByteArray) (b off cap R k : Nat) (w0 w : World) (E : Env w0 R b off cap t) (hB : Below w0.heap.size w0 w) (h : Rd w R (rv b off cap t) k) (hk : k ≤ t.size) (hn : qualF t k = .error 24) :
    Calls Tryz.prog 79 #[.pointer (some ⟨R, 0, none⟩)] w fun e w' => e = .returned (.tuple #[.agg #[.string ⟨#[]⟩, .string ⟨#[]⟩], .int .i64 24]) ∧ Moved R w w' := by
  have Q := Lib.hid (fun W g (y : Below w0.heap.size w0 W) => (qual_any t b off cap R k w0 W E y g hk).mono fun _ _ z => And.intro (qual_post_no hn z.1) z.2)
  have HE := Lib.hid (And.intro E (And.intro hB h))
  clear h E hB hn
  go_enter Tryz.func79, Tryz.ntmps79
  go_wp2_with (fail)
  obtain ⟨W1, hW1⟩ : ∃ W, w.alloc PAIR0 = W := ⟨_, rfl⟩
  rw [hW1]
  have S1 := Lib.hid (St.first HE.out.1 HE.out.2.1 HE.out.2.2 hW1)
  clear hW1
  refine (Q.out W1 S1.out.rd S1.out.below).mono ?_
  rintro e w2 ⟨⟨rfl, j, hj, hr2⟩, hm2⟩
  have S2 := Lib.hid (S1.out.moved hr2 hm2)
  clear hr2 hm2
  obtain ⟨⟨c0, c1⟩, ⟨f0, f1⟩⟩ := two_cells S2.out.out
  go_wp2_with (fail)
  change bodyPost _ _ _ _ _ (setPair w2 w.heap.size ⟨#[]⟩ ⟨#[]⟩)
  obtain ⟨w9, hw9⟩ : ∃ W, setPair w2 w.heap.size ⟨#[]⟩ ⟨#[]⟩ = W := ⟨_, rfl⟩
  obtain ⟨r9, m9⟩ := setPair_row ⟨#[]⟩ ⟨#[]⟩ S2.out.out
  rw [hw9] at r9 m9 ⊢
  obtain ⟨⟨d0, d1⟩, _⟩ := two_cells r9
  refine bodyPost_ret (v := .tuple #[.agg #[.string ⟨#[]⟩, .string ⟨#[]⟩], .int .i64 24]) ?_ rfl ?_
  · rw [results_cell_tmp rfl]
    go_simp
  · obtain ⟨z1, z2⟩ := S2.out.laid m9
    exact ⟨rfl, z2⟩
set_option maxHeartbeats 1000000 in
theorem pair_equals (t : ByteArray) (b off cap R k : Nat) (w0 w : World) (E : Env w0 R b off cap t) (hB : Below w0.heap.size w0 w) (h : Rd w R (rv b off cap t) k) (hk : k ≤ t.size) (n : ByteArray) (i : Nat) (hn : qualF t k = .ok (n, i)) (he : equalsF t i = none) :
    Calls Tryz.prog 79 #[.pointer (some ⟨R, 0, none⟩)] w fun e w' => e = .returned (.tuple #[.agg #[.string ⟨#[]⟩, .string ⟨#[]⟩], .int .i64 23]) ∧ Moved R w w' := by
  have hi := (name_ok (qual_ok hn).1).2.1
  have Q := Lib.hid (fun W g (y : Below w0.heap.size w0 W) => (qual_any t b off cap R k w0 W E y g hk).mono fun _ _ z => And.intro (qual_post hn z.1) z.2)
  have EQ := Lib.hid (fun W g (y : Txt W b off cap t) => equals_no t b off cap R i W g hi y E.ne he)
  have HE := Lib.hid (And.intro E (And.intro hB h))
  clear h E hB hn he
  go_enter Tryz.func79, Tryz.ntmps79
  go_wp2_with (fail)
  obtain ⟨W1, hW1⟩ : ∃ W, w.alloc PAIR0 = W := ⟨_, rfl⟩
  rw [hW1]
  have S1 := Lib.hid (St.first HE.out.1 HE.out.2.1 HE.out.2.2 hW1)
  clear hW1
  refine (Q.out W1 S1.out.rd S1.out.below).mono ?_
  rintro e w2 ⟨⟨rfl, hr2⟩, hm2⟩
  have S2 := Lib.hid (S1.out.moved hr2 hm2)
  clear hr2 hm2
  go_wp2_with (fail)
  refine (EQ.out w2 S2.out.rd S2.out.txt).mono ?_
  rintro e w3 ⟨rfl, ⟨j, hj, hr3⟩, hm3⟩
  have S3 := Lib.hid (S2.out.moved hr3 hm3)
  clear hr3 hm3
  obtain ⟨⟨c0, c1⟩, ⟨f0, f1⟩⟩ := two_cells S3.out.out
  go_wp2_with (fail)
  change bodyPost _ _ _ _ _ (setPair w3 w.heap.size ⟨#[]⟩ ⟨#[]⟩)
  obtain ⟨w9, hw9⟩ : ∃ W, setPair w3 w.heap.size ⟨#[]⟩ ⟨#[]⟩ = W := ⟨_, rfl⟩
  obtain ⟨r9, m9⟩ := setPair_row ⟨#[]⟩ ⟨#[]⟩ S3.out.out
  rw [hw9] at r9 m9 ⊢
  obtain ⟨⟨d0, d1⟩, _⟩ := two_cells r9
  refine bodyPost_ret (v := .tuple #[.agg #[.string ⟨#[]⟩, .string ⟨#[]⟩], .int .i64 23]) ?_ rfl ?_
  · rw [results_cell_tmp rfl]
    go_simp
  · obtain ⟨z1, z2⟩ := S3.out.laid m9
    exact ⟨rfl, z2⟩
set_option maxHeartbeats 1000000 in
theorem pair_quoted (t : ByteArray) (b off cap R k : Nat) (w0 w : World) (E : Env w0 R b off cap t) (hB : Below w0.heap.size w0 w) (h : Rd w R (rv b off cap t) k) (hk : k ≤ t.size) (n : ByteArray) (i j : Nat) (hn : qualF t k = .ok (n, i)) (he : equalsF t i = some j) (hq : quotedF t j = none) :
    Calls Tryz.prog 79 #[.pointer (some ⟨R, 0, none⟩)] w fun e w' => e = .returned (.tuple #[.agg #[.string ⟨#[]⟩, .string ⟨#[]⟩], .int .i64 23]) ∧ Moved R w w' := by
  have hi := (name_ok (qual_ok hn).1).2.1
  have hj := (equals_ok hi he).2
  have Q := Lib.hid (fun W g (y : Below w0.heap.size w0 W) => (qual_any t b off cap R k w0 W E y g hk).mono fun _ _ z => And.intro (qual_post hn z.1) z.2)
  have EQ := Lib.hid (fun W g (y : Txt W b off cap t) => equals_yes t b off cap R i j W g hi y E.ne he)
  have QU := Lib.hid (fun W g (y : Below w0.heap.size w0 W) => quoted_no t b off cap R j w0 W E y g hj hq)
  have HE := Lib.hid (And.intro E (And.intro hB h))
  clear h E hB hn he hq
  go_enter Tryz.func79, Tryz.ntmps79
  go_wp2_with (fail)
  obtain ⟨W1, hW1⟩ : ∃ W, w.alloc PAIR0 = W := ⟨_, rfl⟩
  rw [hW1]
  have S1 := Lib.hid (St.first HE.out.1 HE.out.2.1 HE.out.2.2 hW1)
  clear hW1
  refine (Q.out W1 S1.out.rd S1.out.below).mono ?_
  rintro e w2 ⟨⟨rfl, hr2⟩, hm2⟩
  have S2 := Lib.hid (S1.out.moved hr2 hm2)
  clear hr2 hm2
  go_wp2_with (fail)
  refine (EQ.out w2 S2.out.rd S2.out.txt).mono ?_
  rintro e w3 ⟨rfl, hr3, hm3⟩
  have S3 := Lib.hid (S2.out.moved hr3 hm3)
  clear hr3 hm3
  go_wp2_with (fail)
  refine (QU.out w3 S3.out.rd S3.out.below).mono ?_
  rintro e w4 ⟨⟨q, n4, c, rfl⟩, ⟨j4, hj4, hr4⟩, hm4⟩
  have S4 := Lib.hid (S3.out.moved hr4 hm4)
  clear hr4 hm4
  obtain ⟨⟨c0, c1⟩, ⟨f0, f1⟩⟩ := two_cells S4.out.out
  go_wp2_with (fail)
  change bodyPost _ _ _ _ _ (setPair w4 w.heap.size ⟨#[]⟩ ⟨#[]⟩)
  obtain ⟨w9, hw9⟩ : ∃ W, setPair w4 w.heap.size ⟨#[]⟩ ⟨#[]⟩ = W := ⟨_, rfl⟩
  obtain ⟨r9, m9⟩ := setPair_row ⟨#[]⟩ ⟨#[]⟩ S4.out.out
  rw [hw9] at r9 m9 ⊢
  obtain ⟨⟨d0, d1⟩, _⟩ := two_cells r9
  refine bodyPost_ret (v := .tuple #[.agg #[.string ⟨#[]⟩, .string ⟨#[]⟩], .int .i64 23]) ?_ rfl ?_
  · rw [results_cell_tmp rfl]
    go_simp
  · obtain ⟨z1, z2⟩ := S4.out.laid m9
    exact ⟨rfl, z2⟩
set_option maxHeartbeats 2000000 in
theorem pair_value (t : ByteArray) (b off cap R k : Nat) (w0 w : World) (E : Env w0 R b off cap t) (hB : Below w0.heap.size w0 w) (h : Rd w R (rv b off cap t) k) (hk : k ≤ t.size) (n raw : ByteArray) (i j m : Nat) (hn : qualF t k = .ok (n, i)) (he : equalsF t i = some j) (hq : quotedF t j = some (raw, m)) (hr : ¬ (readF (stepV raw) raw.size).2.2 = 0) :
    Calls Tryz.prog 79 #[.pointer (some ⟨R, 0, none⟩)] w fun e w' => e = .returned (.tuple #[.agg #[.string ⟨#[]⟩, .string ⟨#[]⟩], .int .i64 (readF (stepV raw) raw.size).2.2]) ∧ Moved R w w' := by
  have hi := (name_ok (qual_ok hn).1).2.1
  have hj := (equals_ok hi he).2
  have hz : raw.size ≤ 140737488354000 := by
    have h1 := (quoted_ok hj hq).2.2
    have h2 := E.txt.small
    omega
  have Q := Lib.hid (fun W g (y : Below w0.heap.size w0 W) => (qual_any t b off cap R k w0 W E y g hk).mono fun _ _ z => And.intro (qual_post hn z.1) z.2)
  have EQ := Lib.hid (fun W g (y : Txt W b off cap t) => equals_yes t b off cap R i j W g hi y E.ne he)
  have QU := Lib.hid (fun W g (y : Below w0.heap.size w0 W) => quoted_yes t b off cap R j raw m w0 W E y g hj hq)
  have V := fun p c W (y : Below w0.heap.size w0 W) (z : raw.size ≤ c) g => value_read p raw c W hz z (E.tabs.below y) (E.named.below y) g
  generalize readF (stepV raw) raw.size = x at *
  obtain ⟨x1, x2, x3⟩ := x
  simp only at V hr
  have hrb : (x3 == 0) = false := by rw [beq_eq_false_iff_ne]; exact hr
  have HV := Lib.hid V
  have HE := Lib.hid (And.intro E (And.intro hB h))
  clear h E hB hn he hq V hi hj hz
  go_enter Tryz.func79, Tryz.ntmps79
  go_wp2_with (fail)
  obtain ⟨W1, hW1⟩ : ∃ W, w.alloc PAIR0 = W := ⟨_, rfl⟩
  rw [hW1]
  have S1 := Lib.hid (St.first HE.out.1 HE.out.2.1 HE.out.2.2 hW1)
  clear hW1
  refine (Q.out W1 S1.out.rd S1.out.below).mono ?_
  rintro e w2 ⟨⟨rfl, hr2⟩, hm2⟩
  have S2 := Lib.hid (S1.out.moved hr2 hm2)
  clear hr2 hm2
  go_wp2_with (fail)
  refine (EQ.out w2 S2.out.rd S2.out.txt).mono ?_
  rintro e w3 ⟨rfl, hr3, hm3⟩
  have S3 := Lib.hid (S2.out.moved hr3 hm3)
  clear hr3 hm3
  go_wp2_with (fail)
  refine (QU.out w3 S3.out.rd S3.out.below).mono ?_
  rintro e w4 ⟨⟨q, c, rfl, q1, q2, q3⟩, hr4, hj4, hm4⟩
  have S4 := Lib.hid (S3.out.moved hr4 hm4)
  have HQ := Lib.hid (And.intro q1 q2)
  clear hr4 hm4 q1 q2 q3
  go_wp2_with (fail)
  refine (HV.out q c w4 S4.out.below HQ.out.2 HQ.out.1).mono ?_
  rintro e w5 ⟨rfl, hb5⟩
  have S5 := Lib.hid (S4.out.grew hb5)
  clear hb5
  obtain ⟨⟨c0, c1⟩, ⟨f0, f1⟩⟩ := two_cells S5.out.out
  go_wp2_with (fail)
  change bodyPost _ _ _ _ _ (setPair w5 w.heap.size ⟨#[]⟩ ⟨#[]⟩)
  obtain ⟨w9, hw9⟩ : ∃ W, setPair w5 w.heap.size ⟨#[]⟩ ⟨#[]⟩ = W := ⟨_, rfl⟩
  obtain ⟨r9, m9⟩ := setPair_row ⟨#[]⟩ ⟨#[]⟩ S5.out.out
  rw [hw9] at r9 m9 ⊢
  obtain ⟨⟨d0, d1⟩, _⟩ := two_cells r9
  refine bodyPost_ret (v := .tuple #[.agg #[.string ⟨#[]⟩, .string ⟨#[]⟩], .int .i64 x3]) ?_ rfl ?_
  · rw [results_cell_tmp rfl]
    go_simp
  · obtain ⟨z1, z2⟩ := S5.out.laid m9
    exact ⟨rfl, z2⟩
set_option maxHeartbeats 2000000 in
theorem pair_good (t : ByteArray) (b off cap R k : Nat) (w0 w : World) (E : Env w0 R b off cap t) (hB : Below w0.heap.size w0 w) (h : Rd w R (rv b off cap t) k) (hk : k ≤ t.size) (n raw : ByteArray) (i j m : Nat) (hn : qualF t k = .ok (n, i)) (he : equalsF t i = some j) (hq : quotedF t j = some (raw, m)) (hr : (readF (stepV raw) raw.size).2.2 = 0) :
    Calls Tryz.prog 79 #[.pointer (some ⟨R, 0, none⟩)] w fun e w' => e = .returned (.tuple #[.agg #[.string n, .string ⟨(readF (stepV raw) raw.size).1.toArray⟩], .int .i64 0]) ∧ Rd w' R (rv b off cap t) m ∧ Moved R w w' := by
  have hi := (name_ok (qual_ok hn).1).2.1
  have hj := (equals_ok hi he).2
  have hz : raw.size ≤ 140737488354000 := by
    have h1 := (quoted_ok hj hq).2.2
    have h2 := E.txt.small
    omega
  have Q := Lib.hid (fun W g (y : Below w0.heap.size w0 W) => (qual_any t b off cap R k w0 W E y g hk).mono fun _ _ z => And.intro (qual_post hn z.1) z.2)
  have EQ := Lib.hid (fun W g (y : Txt W b off cap t) => equals_yes t b off cap R i j W g hi y E.ne he)
  have QU := Lib.hid (fun W g (y : Below w0.heap.size w0 W) => quoted_yes t b off cap R j raw m w0 W E y g hj hq)
  have V := fun p c W (y : Below w0.heap.size w0 W) (z : raw.size ≤ c) g => value_read p raw c W hz z (E.tabs.below y) (E.named.below y) g
  generalize readF (stepV raw) raw.size = x at *
  obtain ⟨x1, x2, x3⟩ := x
  simp only at V hr
  subst hr
  have HV := Lib.hid V
  have HE := Lib.hid (And.intro E (And.intro hB h))
  clear h E hB hn he hq V hi hj hz
  go_enter Tryz.func79, Tryz.ntmps79
  go_wp2_with (fail)
  obtain ⟨W1, hW1⟩ : ∃ W, w.alloc PAIR0 = W := ⟨_, rfl⟩
  rw [hW1]
  have S1 := Lib.hid (St.first HE.out.1 HE.out.2.1 HE.out.2.2 hW1)
  clear hW1
  refine (Q.out W1 S1.out.rd S1.out.below).mono ?_
  rintro e w2 ⟨⟨rfl, hr2⟩, hm2⟩
  have S2 := Lib.hid (S1.out.moved hr2 hm2)
  clear hr2 hm2
  go_wp2_with (fail)
  refine (EQ.out w2 S2.out.rd S2.out.txt).mono ?_
  rintro e w3 ⟨rfl, hr3, hm3⟩
  have S3 := Lib.hid (S2.out.moved hr3 hm3)
  clear hr3 hm3
  go_wp2_with (fail)
  refine (QU.out w3 S3.out.rd S3.out.below).mono ?_
  rintro e w4 ⟨⟨q, c, rfl, q1, q2, q3⟩, hr4, hj4, hm4⟩
  have S4 := Lib.hid (S3.out.moved hr4 hm4)
  have HQ := Lib.hid (And.intro q1 q2)
  clear hr4 hm4 q1 q2 q3
  go_wp2_with (fail)
  refine (HV.out q c w4 S4.out.below HQ.out.2 HQ.out.1).mono ?_
  rintro e w5 ⟨rfl, hb5⟩
  have S5 := Lib.hid (S4.out.grew hb5)
  clear hb5
  obtain ⟨⟨c0, c1⟩, ⟨f0, f1⟩⟩ := two_cells S5.out.out
  go_wp2_with (fail)
  change bodyPost _ _ _ _ _ (setPair w5 w.heap.size n ⟨x1.toArray⟩)
  obtain ⟨w9, hw9⟩ : ∃ W, setPair w5 w.heap.size n ⟨x1.toArray⟩ = W := ⟨_, rfl⟩
  obtain ⟨r9, m9⟩ := setPair_row n ⟨x1.toArray⟩ S5.out.out
  rw [hw9] at r9 m9 ⊢
  obtain ⟨⟨d0, d1⟩, _⟩ := two_cells r9
  refine bodyPost_ret (v := .tuple #[.agg #[.string n, .string ⟨x1.toArray⟩], .int .i64 0]) ?_ rfl ?_
  · rw [results_cell_tmp rfl]
    go_simp
  · obtain ⟨z1, z2⟩ := S5.out.laid m9
    exact ⟨rfl, z1, z2⟩
theorem pair_any (t : ByteArray) (b off cap R k : Nat) (w0 w : World) (E : Env w0 R b off cap t) (hB : Below w0.heap.size w0 w) (h : Rd w R (rv b off cap t) k) (hk : k ≤ t.size) :
    Calls Tryz.prog 79 #[.pointer (some ⟨R, 0, none⟩)] w fun e w' => PairPost R b off cap t (pairF t k) e w' ∧ Moved R w w' := by
  unfold pairF
  cases hn : qualF t k with
  | error e0 =>
    rcases qual_err hn with rfl | rfl
    · exact (pair_name23 t b off cap R k w0 w E hB h hk hn).mono fun _ _ z => z
    · exact (pair_name24 t b off cap R k w0 w E hB h hk hn).mono fun _ _ z => z
  | ok p =>
    obtain ⟨n, i⟩ := p
    simp only
    cases he : equalsF t i with
    | none => exact (pair_equals t b off cap R k w0 w E hB h hk n i hn he).mono fun _ _ z => z
    | some j =>
      simp only
      cases hq : quotedF t j with
      | none => exact (pair_quoted t b off cap R k w0 w E hB h hk n i j hn he hq).mono fun _ _ z => z
      | some q =>
        obtain ⟨raw, m⟩ := q
        simp only
        by_cases hr : (readF (stepV raw) raw.size).2.2 = 0
        · rw [if_pos hr]
          exact (pair_good t b off cap R k w0 w E hB h hk n raw i j m hn he hq hr).mono fun _ _ z => ⟨⟨z.1, z.2.1⟩, z.2.2⟩
        · rw [if_neg hr]
          refine (pair_value t b off cap R k w0 w E hB h hk n raw i j m hn he hq hr).mono fun _ _ z => ⟨?_, z.2⟩
          show _ = _
          rw [z.1, Int.toNat_of_nonneg (readV_nn raw)]
end Go.Proofs.YtcfecnleibeegaaGreatDoor
