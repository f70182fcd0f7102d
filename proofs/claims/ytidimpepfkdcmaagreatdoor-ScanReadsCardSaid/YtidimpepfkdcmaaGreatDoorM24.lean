/- Proved here: what the document's instruction answers; and how a walk of the document's scanner lays its token. -/
import Derived.Test.YtidimpepfkdcmaaGreatDoorM10
import Derived.Test.YtidimpepfkdcmaaGreatDoorM11
import Derived.Test.YtidimpepfkdcmaaGreatDoorM22
import Derived.Test.YtidimpepfkdcmaaGreatDoorM23
namespace Go.Proofs.YtidimpepfkdcmaaGreatDoor
open Go.RowKit

abbrev TOKR : Obj := .cells #[Value.int IntKind.i64 0, Value.int IntKind.i64 0, Value.string { data := #[] }, Value.slice none 0 0, Value.string { data := #[] }, Value.int IntKind.i64 0] 37
/-- What the document's readers of a token answer. -/
def RtPost (w : World) (r : Except Nat (Tok × Nat)) (e : Ending) (w' : World) : Prop := (match r with
  | .ok (x, i) => ∃ pv, e = .returned (.tuple #[tokV x.kind 0 x.name pv x.text x.refs, .int .i64 (i : Int), .int .i64 0]) ∧ RPairsAt w' w.heap.size pv x.pairs
  | .error e0 => e = .returned (.tuple #[tokV 0 0 ⟨#[]⟩ (.slice none 0 0) ⟨#[]⟩ 0, .int .i64 0, .int .i64 (e0 : Int)])) ∧ Below w.heap.size w w'
theorem rt_err {w w' : World} {r : Except Nat (Tok × Nat)} {e : Ending} {e0 : Nat} (h : r = .error e0) (z : e = .returned (.tuple #[tokV 0 0 ⟨#[]⟩ (.slice none 0 0) ⟨#[]⟩ 0, .int .i64 0, .int .i64 (e0 : Int)]) ∧ Below w.heap.size w w') : RtPost w r e w' := by
  subst h
  exact z
theorem rt_plain {w w' : World} {r : Except Nat (Tok × Nat)} {e : Ending} {kind refs : Nat} {n x : ByteArray} {i : Nat} (h : r = .ok (⟨kind, n, [], x, refs⟩, i)) (z : e = .returned (.tuple #[tokV kind 0 n (.slice none 0 0) x refs, .int .i64 (i : Int), .int .i64 0]) ∧ Below w.heap.size w w') : RtPost w r e w' := by
  subst h
  exact ⟨⟨_, z.1, RPairsAt.nil _ _⟩, z.2⟩
theorem wr_ok {w w' : World} {r : Except Nat (ByteArray × Nat)} {e : Ending} {n : ByteArray} {i : Nat} (h : r = .ok (n, i)) (z : WrPost w r e w') : e = .returned (.tuple #[.string n, .int .i64 (i : Int), .int .i64 0]) ∧ Below w.heap.size w w' := by
  subst h
  exact z
theorem wr_err {w w' : World} {r : Except Nat (ByteArray × Nat)} {e : Ending} {e0 : Nat} (h : r = .error e0) (z : WrPost w r e w') : e = .returned (.tuple #[.string ⟨#[]⟩, .int .i64 0, .int .i64 (e0 : Int)]) ∧ Below w.heap.size w w' := by
  subst h
  exact z
/-- A walk that began at w stands at W: the block of its result is as it was made. -/
structure RSt (w W : World) : Prop where
  out : W.heap[w.heap.size]? = some TOKR
  low : Below w.heap.size w W
theorem RSt.first {w W : World} (hW : w.alloc TOKR = W) : RSt w W := by
  rw [← hW]
  exact ⟨heap_alloc_new w _, (Below.refl _ _).alloc (Nat.le_refl _) _⟩
theorem RSt.le {w W : World} (S : RSt w W) : w.heap.size < W.heap.size := (Array.getElem?_eq_some_iff.1 S.out).1
theorem RSt.grew {w W W' : World} (S : RSt w W) (h : Below W.heap.size W W') : RSt w W' := by
  refine ⟨?_, below_cat S.low h⟩
  rw [h.block _ S.le]
  exact S.out
theorem RSt.laid {w W W' : World} (S : RSt w W) (m : W.grownBy W' (some w.heap.size)) : Below w.heap.size w W' := S.low.grown m S.low.size (fun k e => by injection e with e; omega)

set_option maxRecDepth 100000 in
set_option maxHeartbeats 1000000 in
theorem rinstr_err (t : ByteArray) (k : Nat) (w : World) (ht : t.size ≤ 4000000) (hk : k ≤ t.size) (e0 : Nat) (h0 : e0 ≠ 0) (hq : qualF t k = .error e0) :
    Calls Tryz.prog 31 #[.string t, .int .i64 (k : Int)] w fun e w' => e = .returned (.tuple #[tokV 0 0 ⟨#[]⟩ (.slice none 0 0) ⟨#[]⟩ 0, .int .i64 0, .int .i64 (e0 : Int)]) ∧ Below w.heap.size w w' := by
  have WR := Lib.hid (fun W => (refWritten_any t k W ht hk).mono fun _ _ z => wr_err hq z)
  have b0 : ((e0 : Int) == 0) = false := by rw [beq_eq_false_iff_ne]; omega
  have b1 : ((e0 : Int) != 0) = true := by rw [bne_iff_ne]; omega
  have b2 : ¬ (e0 : Int) = 0 := by omega
  clear hq ht hk h0
  go_enter Tryz.func31, Tryz.ntmps31
  go_wp2_with (fail)
  obtain ⟨W1, hW1⟩ : ∃ W, w.alloc TOKR = W := ⟨_, rfl⟩
  rw [hW1]
  have S1 := Lib.hid (RSt.first hW1)
  clear hW1
  refine (WR.out _).mono ?_
  rintro e w2 ⟨rfl, hb⟩
  have S2 := Lib.hid (S1.out.grew hb)
  clear hb
  obtain ⟨⟨c0, c1, c2, c3, c4, c5⟩, ⟨f0, f1, f2, f3, f4, f5⟩⟩ := six_cells S2.out.out
  go_wp2_with (fail)
  change bodyPost _ _ _ _ _ (setTok w2 w.heap.size 0 0 ⟨#[]⟩ (.slice none 0 0) ⟨#[]⟩ 0)
  obtain ⟨w9, hw9⟩ : ∃ W, setTok w2 w.heap.size 0 0 ⟨#[]⟩ (.slice none 0 0) ⟨#[]⟩ 0 = W := ⟨_, rfl⟩
  obtain ⟨r9, m9⟩ := setTok_row 0 0 ⟨#[]⟩ (.slice none 0 0) ⟨#[]⟩ 0 S2.out.out
  rw [hw9] at r9 m9 ⊢
  obtain ⟨⟨d0, d1, d2, d3, d4, d5⟩, _⟩ := six_cells r9
  refine bodyPost_ret (v := .tuple #[tokV 0 0 ⟨#[]⟩ (.slice none 0 0) ⟨#[]⟩ 0, .int .i64 0, .int .i64 (e0 : Int)]) ?_ rfl ?_
  · simp [results, Tryz.results31, go_sem, d0, d1, d2, d3, d4, d5]
  · exact ⟨rfl, S2.out.laid m9⟩
set_option maxRecDepth 100000 in
set_option maxHeartbeats 1000000 in
theorem rinstr_bad (t : ByteArray) (k : Nat) (w : World) (ht : t.size ≤ 4000000) (hk : k ≤ t.size) (n : ByteArray) (i : Nat) (hq : qualF t k = .ok (n, i)) (hn : nameF t k = .ok (n, i)) (hnb : nameB n = false) :
    Calls Tryz.prog 31 #[.string t, .int .i64 (k : Int)] w fun e w' => e = .returned (.tuple #[tokV 0 0 ⟨#[]⟩ (.slice none 0 0) ⟨#[]⟩ 0, .int .i64 0, .int .i64 24]) ∧ Below w.heap.size w w' := by
  have WR := Lib.hid (fun W => (refWritten_any t k W ht hk).mono fun _ _ z => wr_ok hq z)
  obtain ⟨a1, a2, a3, _⟩ := name_ok hn
  have hns : n.size ≤ 4194304 := by
    rw [a3]
    simp
    omega
  have NM := Lib.hid (fun W => refName_any n W (by omega))
  rw [hnb] at NM
  clear hq hn hnb ht hk a1 a2 a3 hns
  go_enter Tryz.func31, Tryz.ntmps31
  go_wp2_with (fail)
  obtain ⟨W1, hW1⟩ : ∃ W, w.alloc TOKR = W := ⟨_, rfl⟩
  rw [hW1]
  have S1 := Lib.hid (RSt.first hW1)
  clear hW1
  refine (WR.out _).mono ?_
  rintro e w2 ⟨rfl, hb⟩
  have S2 := Lib.hid (S1.out.grew hb)
  clear hb
  go_wp2_with (fail)
  refine (NM.out _).mono ?_
  rintro e w3 ⟨rfl, hb⟩
  have S3 := Lib.hid (S2.out.grew hb)
  clear hb
  obtain ⟨⟨c0, c1, c2, c3, c4, c5⟩, ⟨f0, f1, f2, f3, f4, f5⟩⟩ := six_cells S3.out.out
  go_wp2_with (fail)
  change bodyPost _ _ _ _ _ (setTok w3 w.heap.size 0 0 ⟨#[]⟩ (.slice none 0 0) ⟨#[]⟩ 0)
  obtain ⟨w9, hw9⟩ : ∃ W, setTok w3 w.heap.size 0 0 ⟨#[]⟩ (.slice none 0 0) ⟨#[]⟩ 0 = W := ⟨_, rfl⟩
  obtain ⟨r9, m9⟩ := setTok_row 0 0 ⟨#[]⟩ (.slice none 0 0) ⟨#[]⟩ 0 S3.out.out
  rw [hw9] at r9 m9 ⊢
  obtain ⟨⟨d0, d1, d2, d3, d4, d5⟩, _⟩ := six_cells r9
  refine bodyPost_ret (v := .tuple #[tokV 0 0 ⟨#[]⟩ (.slice none 0 0) ⟨#[]⟩ 0, .int .i64 0, .int .i64 24]) ?_ rfl ?_
  · simp [results, Tryz.results31, go_sem, d0, d1, d2, d3, d4, d5]
  · exact ⟨rfl, S3.out.laid m9⟩
set_option maxRecDepth 100000 in
set_option maxHeartbeats 1000000 in
theorem rinstr_xml (t : ByteArray) (k : Nat) (w : World) (ht : t.size ≤ 4000000) (hk : k ≤ t.size) (n : ByteArray) (i : Nat) (hq : qualF t k = .ok (n, i)) (hn : nameF t k = .ok (n, i)) (hnb : nameB n = true) (hx : xmlB n = true) :
    Calls Tryz.prog 31 #[.string t, .int .i64 (k : Int)] w fun e w' => e = .returned (.tuple #[tokV 0 0 ⟨#[]⟩ (.slice none 0 0) ⟨#[]⟩ 0, .int .i64 0, .int .i64 29]) ∧ Below w.heap.size w w' := by
  have WR := Lib.hid (fun W => (refWritten_any t k W ht hk).mono fun _ _ z => wr_ok hq z)
  obtain ⟨a1, a2, a3, _⟩ := name_ok hn
  have hns : n.size ≤ 4194304 := by
    rw [a3]
    simp
    omega
  have NM := Lib.hid (fun W => refName_any n W (by omega))
  rw [hnb] at NM
  have SM := Lib.hid (fun W => refSmall_any n W hns)
  have x1 := (small_xml n).2 hx
  clear hq hn hnb ht hk a1 a2 a3 hns hx
  go_enter Tryz.func31, Tryz.ntmps31
  go_wp2_with (fail)
  obtain ⟨W1, hW1⟩ : ∃ W, w.alloc TOKR = W := ⟨_, rfl⟩
  rw [hW1]
  have S1 := Lib.hid (RSt.first hW1)
  clear hW1
  refine (WR.out _).mono ?_
  rintro e w2 ⟨rfl, hb⟩
  have S2 := Lib.hid (S1.out.grew hb)
  clear hb
  go_wp2_with (fail)
  refine (NM.out _).mono ?_
  rintro e w3 ⟨rfl, hb⟩
  have S3 := Lib.hid (S2.out.grew hb)
  clear hb
  go_wp2_with (fail)
  refine (SM.out _).mono ?_
  rintro e w4 ⟨rfl, hb⟩
  have S4 := Lib.hid (S3.out.grew hb)
  clear hb
  obtain ⟨⟨c0, c1, c2, c3, c4, c5⟩, ⟨f0, f1, f2, f3, f4, f5⟩⟩ := six_cells S4.out.out
  go_wp2_with (fail)
  change bodyPost _ _ _ _ _ (setTok w4 w.heap.size 0 0 ⟨#[]⟩ (.slice none 0 0) ⟨#[]⟩ 0)
  obtain ⟨w9, hw9⟩ : ∃ W, setTok w4 w.heap.size 0 0 ⟨#[]⟩ (.slice none 0 0) ⟨#[]⟩ 0 = W := ⟨_, rfl⟩
  obtain ⟨r9, m9⟩ := setTok_row 0 0 ⟨#[]⟩ (.slice none 0 0) ⟨#[]⟩ 0 S4.out.out
  rw [hw9] at r9 m9 ⊢
  obtain ⟨⟨d0, d1, d2, d3, d4, d5⟩, _⟩ := six_cells r9
  refine bodyPost_ret (v := .tuple #[tokV 0 0 ⟨#[]⟩ (.slice none 0 0) ⟨#[]⟩ 0, .int .i64 0, .int .i64 29]) ?_ rfl ?_
  · simp [results, Tryz.results31, go_sem, d0, d1, d2, d3, d4, d5]
  · exact ⟨rfl, S4.out.laid m9⟩
set_option maxRecDepth 100000 in
set_option maxHeartbeats 1000000 in
theorem rinstr_end (t : ByteArray) (k : Nat) (w : World) (ht : t.size ≤ 4000000) (hk : k ≤ t.size) (n : ByteArray) (i : Nat) (hq : qualF t k = .ok (n, i)) (hn : nameF t k = .ok (n, i)) (hnb : nameB n = true) (hx : xmlB n = false) (hsq : seesB t i [63, 62] = true) :
    Calls Tryz.prog 31 #[.string t, .int .i64 (k : Int)] w fun e w' => e = .returned (.tuple #[tokV 8 0 n (.slice none 0 0) ⟨#[]⟩ 0, .int .i64 ((i : Int) + 2), .int .i64 0]) ∧ Below w.heap.size w w' := by
  have WR := Lib.hid (fun W => (refWritten_any t k W ht hk).mono fun _ _ z => wr_ok hq z)
  obtain ⟨a1, a2, a3, _⟩ := name_ok hn
  have hns : n.size ≤ 4194304 := by
    rw [a3]
    simp
    omega
  have NM := Lib.hid (fun W => refName_any n W (by omega))
  rw [hnb] at NM
  have SM := Lib.hid (fun W => refSmall_any n W hns)
  have x1 : ¬ (smallB n).toList = [120, 109, 108] := fun q => by
    rw [(small_xml n).1 q] at hx
    cases hx
  have x2 : ((smallB n).toList == [120, 109, 108]) = false := beq_eq_false_iff_ne.2 x1
  have SQ := Lib.hid (fun W => refStands_at t ⟨#[63, 62]⟩ (i : Int) i [63, 62] W rfl rfl (by omega) (by omega) (by decide) (by decide))
  rw [hsq] at SQ
  have i1 : (i : Int) ≤ 4000000 := by omega
  clear hq hn hnb ht hk a1 a2 a3 hns hx hsq
  go_enter Tryz.func31, Tryz.ntmps31
  go_wp2_with (fail)
  obtain ⟨W1, hW1⟩ : ∃ W, w.alloc TOKR = W := ⟨_, rfl⟩
  rw [hW1]
  have S1 := Lib.hid (RSt.first hW1)
  clear hW1
  refine (WR.out _).mono ?_
  rintro e w2 ⟨rfl, hb⟩
  have S2 := Lib.hid (S1.out.grew hb)
  clear hb
  go_wp2_with (fail)
  refine (NM.out _).mono ?_
  rintro e w3 ⟨rfl, hb⟩
  have S3 := Lib.hid (S2.out.grew hb)
  clear hb
  go_wp2_with (fail)
  refine (SM.out _).mono ?_
  rintro e w4 ⟨rfl, hb⟩
  have S4 := Lib.hid (S3.out.grew hb)
  clear hb
  go_wp2_with (fail)
  refine (SQ.out _).mono ?_
  rintro e w' ⟨rfl, rfl⟩
  obtain ⟨⟨c0, c1, c2, c3, c4, c5⟩, ⟨f0, f1, f2, f3, f4, f5⟩⟩ := six_cells S4.out.out
  go_wp2_with (fail)
  change bodyPost _ _ _ _ _ (setTok w4 w.heap.size 8 0 n (.slice none 0 0) ⟨#[]⟩ 0)
  obtain ⟨w9, hw9⟩ : ∃ W, setTok w4 w.heap.size 8 0 n (.slice none 0 0) ⟨#[]⟩ 0 = W := ⟨_, rfl⟩
  obtain ⟨r9, m9⟩ := setTok_row 8 0 n (.slice none 0 0) ⟨#[]⟩ 0 S4.out.out
  rw [hw9] at r9 m9 ⊢
  obtain ⟨⟨d0, d1, d2, d3, d4, d5⟩, _⟩ := six_cells r9
  refine bodyPost_ret (v := .tuple #[tokV 8 0 n (.slice none 0 0) ⟨#[]⟩ 0, .int .i64 ((i : Int) + 2), .int .i64 0]) ?_ rfl ?_
  · simp [results, Tryz.results31, go_sem, d0, d1, d2, d3, d4, d5]
  · exact ⟨rfl, S4.out.laid m9⟩
set_option maxRecDepth 100000 in
set_option maxHeartbeats 1000000 in
theorem rinstr_gap (t : ByteArray) (k : Nat) (w : World) (ht : t.size ≤ 4000000) (hk : k ≤ t.size) (n : ByteArray) (i : Nat) (hq : qualF t k = .ok (n, i)) (hn : nameF t k = .ok (n, i)) (hnb : nameB n = true) (hx : xmlB n = false) (hsq : seesB t i [63, 62] = false) (hg : whiteTo t i = i) :
    Calls Tryz.prog 31 #[.string t, .int .i64 (k : Int)] w fun e w' => e = .returned (.tuple #[tokV 0 0 ⟨#[]⟩ (.slice none 0 0) ⟨#[]⟩ 0, .int .i64 0, .int .i64 23]) ∧ Below w.heap.size w w' := by
  have WR := Lib.hid (fun W => (refWritten_any t k W ht hk).mono fun _ _ z => wr_ok hq z)
  obtain ⟨a1, a2, a3, _⟩ := name_ok hn
  have hns : n.size ≤ 4194304 := by
    rw [a3]
    simp
    omega
  have NM := Lib.hid (fun W => refName_any n W (by omega))
  rw [hnb] at NM
  have SM := Lib.hid (fun W => refSmall_any n W hns)
  have x1 : ¬ (smallB n).toList = [120, 109, 108] := fun q => by
    rw [(small_xml n).1 q] at hx
    cases hx
  have x2 : ((smallB n).toList == [120, 109, 108]) = false := beq_eq_false_iff_ne.2 x1
  have SQ := Lib.hid (fun W => refStands_at t ⟨#[63, 62]⟩ (i : Int) i [63, 62] W rfl rfl (by omega) (by omega) (by decide) (by decide))
  rw [hsq] at SQ
  have WH := Lib.hid (fun W => refWhite_any t i W (by omega) (by omega))
  have hwle := white_le a2
  obtain ⟨k1, hk1⟩ : ∃ k1, whiteTo t i = k1 := ⟨_, rfl⟩
  rw [hk1] at WH hwle
  have hki : k1 = i := by omega
  subst hki
  have FI := Lib.hid (fun W => refFind_at t ⟨#[63, 62]⟩ (k1 : Int) k1 [63, 62] W rfl rfl (by omega) (by omega) (by decide) (by decide))
  obtain ⟨z, hz⟩ : ∃ z, findZ t k1 [63, 62] = z := ⟨_, rfl⟩
  rw [hz] at FI
  have i1 : (k1 : Int) ≤ 4000000 := by omega
  clear hq hn hnb ht hk a1 a2 a3 hns hx hsq hk1 hg hwle hz
  go_enter Tryz.func31, Tryz.ntmps31
  go_wp2_with (fail)
  obtain ⟨W1, hW1⟩ : ∃ W, w.alloc TOKR = W := ⟨_, rfl⟩
  rw [hW1]
  have S1 := Lib.hid (RSt.first hW1)
  clear hW1
  refine (WR.out _).mono ?_
  rintro e w2 ⟨rfl, hb⟩
  have S2 := Lib.hid (S1.out.grew hb)
  clear hb
  go_wp2_with (fail)
  refine (NM.out _).mono ?_
  rintro e w3 ⟨rfl, hb⟩
  have S3 := Lib.hid (S2.out.grew hb)
  clear hb
  go_wp2_with (fail)
  refine (SM.out _).mono ?_
  rintro e w4 ⟨rfl, hb⟩
  have S4 := Lib.hid (S3.out.grew hb)
  clear hb
  go_wp2_with (fail)
  refine (SQ.out _).mono ?_
  rintro e w' ⟨rfl, rfl⟩
  go_wp2_with (fail)
  refine (WH.out _).mono ?_
  rintro e w' ⟨rfl, rfl⟩
  go_wp2_with (fail)
  refine (FI.out _).mono ?_
  rintro e w' ⟨rfl, rfl⟩
  obtain ⟨⟨c0, c1, c2, c3, c4, c5⟩, ⟨f0, f1, f2, f3, f4, f5⟩⟩ := six_cells S4.out.out
  go_wp2_with (fail)
  change bodyPost _ _ _ _ _ (setTok w4 w.heap.size 0 0 ⟨#[]⟩ (.slice none 0 0) ⟨#[]⟩ 0)
  obtain ⟨w9, hw9⟩ : ∃ W, setTok w4 w.heap.size 0 0 ⟨#[]⟩ (.slice none 0 0) ⟨#[]⟩ 0 = W := ⟨_, rfl⟩
  obtain ⟨r9, m9⟩ := setTok_row 0 0 ⟨#[]⟩ (.slice none 0 0) ⟨#[]⟩ 0 S4.out.out
  rw [hw9] at r9 m9 ⊢
  obtain ⟨⟨d0, d1, d2, d3, d4, d5⟩, _⟩ := six_cells r9
  refine bodyPost_ret (v := .tuple #[tokV 0 0 ⟨#[]⟩ (.slice none 0 0) ⟨#[]⟩ 0, .int .i64 0, .int .i64 23]) ?_ rfl ?_
  · simp [results, Tryz.results31, go_sem, d0, d1, d2, d3, d4, d5]
  · exact ⟨rfl, S4.out.laid m9⟩
set_option maxRecDepth 100000 in
set_option maxHeartbeats 1000000 in
theorem rinstr_open (t : ByteArray) (k : Nat) (w : World) (ht : t.size ≤ 4000000) (hk : k ≤ t.size) (n : ByteArray) (i : Nat) (hq : qualF t k = .ok (n, i)) (hn : nameF t k = .ok (n, i)) (hnb : nameB n = true) (hx : xmlB n = false) (hsq : seesB t i [63, 62] = false) (hg : ¬ whiteTo t i = i) (hf : findF t (whiteTo t i) [63, 62] = none) :
    Calls Tryz.prog 31 #[.string t, .int .i64 (k : Int)] w fun e w' => e = .returned (.tuple #[tokV 0 0 ⟨#[]⟩ (.slice none 0 0) ⟨#[]⟩ 0, .int .i64 0, .int .i64 23]) ∧ Below w.heap.size w w' := by
  have WR := Lib.hid (fun W => (refWritten_any t k W ht hk).mono fun _ _ z => wr_ok hq z)
  obtain ⟨a1, a2, a3, _⟩ := name_ok hn
  have hns : n.size ≤ 4194304 := by
    rw [a3]
    simp
    omega
  have NM := Lib.hid (fun W => refName_any n W (by omega))
  rw [hnb] at NM
  have SM := Lib.hid (fun W => refSmall_any n W hns)
  have x1 : ¬ (smallB n).toList = [120, 109, 108] := fun q => by
    rw [(small_xml n).1 q] at hx
    cases hx
  have x2 : ((smallB n).toList == [120, 109, 108]) = false := beq_eq_false_iff_ne.2 x1
  have SQ := Lib.hid (fun W => refStands_at t ⟨#[63, 62]⟩ (i : Int) i [63, 62] W rfl rfl (by omega) (by omega) (by decide) (by decide))
  rw [hsq] at SQ
  have WH := Lib.hid (fun W => refWhite_any t i W (by omega) (by omega))
  have hwle := white_le a2
  obtain ⟨k1, hk1⟩ : ∃ k1, whiteTo t i = k1 := ⟨_, rfl⟩
  rw [hk1] at WH hwle
  rw [hk1] at hf hg
  have m1 : ((k1 : Int) == (i : Int)) = false := by rw [beq_eq_false_iff_ne]; omega
  have m2 : ¬ (k1 : Int) = (i : Int) := by omega
  have FI := Lib.hid (fun W => refFind_at t ⟨#[63, 62]⟩ (k1 : Int) k1 [63, 62] W rfl rfl (by omega) (by omega) (by decide) (by decide))
  have hfz : findZ t k1 [63, 62] = -1 := by unfold findZ; rw [hf]
  rw [hfz] at FI
  have i1 : (k1 : Int) ≤ 4000000 := by omega
  clear hq hn hnb ht hk a1 a2 a3 hns hx hsq hk1 hg hwle hf hfz
  go_enter Tryz.func31, Tryz.ntmps31
  go_wp2_with (fail)
  obtain ⟨W1, hW1⟩ : ∃ W, w.alloc TOKR = W := ⟨_, rfl⟩
  rw [hW1]
  have S1 := Lib.hid (RSt.first hW1)
  clear hW1
  refine (WR.out _).mono ?_
  rintro e w2 ⟨rfl, hb⟩
  have S2 := Lib.hid (S1.out.grew hb)
  clear hb
  go_wp2_with (fail)
  refine (NM.out _).mono ?_
  rintro e w3 ⟨rfl, hb⟩
  have S3 := Lib.hid (S2.out.grew hb)
  clear hb
  go_wp2_with (fail)
  refine (SM.out _).mono ?_
  rintro e w4 ⟨rfl, hb⟩
  have S4 := Lib.hid (S3.out.grew hb)
  clear hb
  go_wp2_with (fail)
  refine (SQ.out _).mono ?_
  rintro e w' ⟨rfl, rfl⟩
  go_wp2_with (fail)
  refine (WH.out _).mono ?_
  rintro e w' ⟨rfl, rfl⟩
  go_wp2_with (fail)
  refine (FI.out _).mono ?_
  rintro e w' ⟨rfl, rfl⟩
  obtain ⟨⟨c0, c1, c2, c3, c4, c5⟩, ⟨f0, f1, f2, f3, f4, f5⟩⟩ := six_cells S4.out.out
  go_wp2_with (fail)
  change bodyPost _ _ _ _ _ (setTok w4 w.heap.size 0 0 ⟨#[]⟩ (.slice none 0 0) ⟨#[]⟩ 0)
  obtain ⟨w9, hw9⟩ : ∃ W, setTok w4 w.heap.size 0 0 ⟨#[]⟩ (.slice none 0 0) ⟨#[]⟩ 0 = W := ⟨_, rfl⟩
  obtain ⟨r9, m9⟩ := setTok_row 0 0 ⟨#[]⟩ (.slice none 0 0) ⟨#[]⟩ 0 S4.out.out
  rw [hw9] at r9 m9 ⊢
  obtain ⟨⟨d0, d1, d2, d3, d4, d5⟩, _⟩ := six_cells r9
  refine bodyPost_ret (v := .tuple #[tokV 0 0 ⟨#[]⟩ (.slice none 0 0) ⟨#[]⟩ 0, .int .i64 0, .int .i64 23]) ?_ rfl ?_
  · simp [results, Tryz.results31, go_sem, d0, d1, d2, d3, d4, d5]
  · exact ⟨rfl, S4.out.laid m9⟩
set_option maxRecDepth 100000 in
set_option maxHeartbeats 1000000 in
theorem rinstr_good (t : ByteArray) (k : Nat) (w : World) (ht : t.size ≤ 4000000) (hk : k ≤ t.size) (n : ByteArray) (i : Nat) (hq : qualF t k = .ok (n, i)) (hn : nameF t k = .ok (n, i)) (hnb : nameB n = true) (hx : xmlB n = false) (hsq : seesB t i [63, 62] = false) (hg : ¬ whiteTo t i = i) (m : Nat) (hf : findF t (whiteTo t i) [63, 62] = some m) :
    Calls Tryz.prog 31 #[.string t, .int .i64 (k : Int)] w fun e w' => e = .returned (.tuple #[tokV 8 0 n (.slice none 0 0) (t.extract (whiteTo t i) m) 0, .int .i64 ((m : Int) + 2), .int .i64 0]) ∧ Below w.heap.size w w' := by
  have WR := Lib.hid (fun W => (refWritten_any t k W ht hk).mono fun _ _ z => wr_ok hq z)
  obtain ⟨a1, a2, a3, _⟩ := name_ok hn
  have hns : n.size ≤ 4194304 := by
    rw [a3]
    simp
    omega
  have NM := Lib.hid (fun W => refName_any n W (by omega))
  rw [hnb] at NM
  have SM := Lib.hid (fun W => refSmall_any n W hns)
  have x1 : ¬ (smallB n).toList = [120, 109, 108] := fun q => by
    rw [(small_xml n).1 q] at hx
    cases hx
  have x2 : ((smallB n).toList == [120, 109, 108]) = false := beq_eq_false_iff_ne.2 x1
  have SQ := Lib.hid (fun W => refStands_at t ⟨#[63, 62]⟩ (i : Int) i [63, 62] W rfl rfl (by omega) (by omega) (by decide) (by decide))
  rw [hsq] at SQ
  have WH := Lib.hid (fun W => refWhite_any t i W (by omega) (by omega))
  have hwle := white_le a2
  obtain ⟨k1, hk1⟩ : ∃ k1, whiteTo t i = k1 := ⟨_, rfl⟩
  rw [hk1] at WH hwle
  rw [hk1] at hf hg ⊢
  have m1 : ((k1 : Int) == (i : Int)) = false := by rw [beq_eq_false_iff_ne]; omega
  have m2 : ¬ (k1 : Int) = (i : Int) := by omega
  have FI := Lib.hid (fun W => refFind_at t ⟨#[63, 62]⟩ (k1 : Int) k1 [63, 62] W rfl rfl (by omega) (by omega) (by decide) (by decide))
  have hfz : findZ t k1 [63, 62] = (m : Int) := by unfold findZ; rw [hf]
  rw [hfz] at FI
  obtain ⟨q1, q2, _⟩ := (find_iff hwle).1 hf
  have i1 : (k1 : Int) ≤ 4000000 := by omega
  have i2 : (m : Int) ≤ 4000000 := by omega
  have i3 : (k1 : Int) ≤ (m : Int) := by omega
  have i4 : (m : Int) ≤ (t.size : Int) := by omega
  have i5 : ¬ (m : Int) < 0 := by omega
  have i6 : (0 : Int) ≤ (k1 : Int) := by omega
  clear hq hn hnb ht hk a1 a2 a3 hns hx hsq hk1 hg hwle hf hfz q1 q2
  go_enter Tryz.func31, Tryz.ntmps31
  go_wp2_with (fail)
  obtain ⟨W1, hW1⟩ : ∃ W, w.alloc TOKR = W := ⟨_, rfl⟩
  rw [hW1]
  have S1 := Lib.hid (RSt.first hW1)
  clear hW1
  refine (WR.out _).mono ?_
  rintro e w2 ⟨rfl, hb⟩
  have S2 := Lib.hid (S1.out.grew hb)
  clear hb
  go_wp2_with (fail)
  refine (NM.out _).mono ?_
  rintro e w3 ⟨rfl, hb⟩
  have S3 := Lib.hid (S2.out.grew hb)
  clear hb
  go_wp2_with (fail)
  refine (SM.out _).mono ?_
  rintro e w4 ⟨rfl, hb⟩
  have S4 := Lib.hid (S3.out.grew hb)
  clear hb
  go_wp2_with (fail)
  refine (SQ.out _).mono ?_
  rintro e w' ⟨rfl, rfl⟩
  go_wp2_with (fail)
  refine (WH.out _).mono ?_
  rintro e w' ⟨rfl, rfl⟩
  go_wp2_with (fail)
  refine (FI.out _).mono ?_
  rintro e w' ⟨rfl, rfl⟩
  obtain ⟨⟨c0, c1, c2, c3, c4, c5⟩, ⟨f0, f1, f2, f3, f4, f5⟩⟩ := six_cells S4.out.out
  go_wp2_with (fail)
  change bodyPost _ _ _ _ _ (setTok w4 w.heap.size 8 0 n (.slice none 0 0) (t.extract k1 m) 0)
  obtain ⟨w9, hw9⟩ : ∃ W, setTok w4 w.heap.size 8 0 n (.slice none 0 0) (t.extract k1 m) 0 = W := ⟨_, rfl⟩
  obtain ⟨r9, m9⟩ := setTok_row 8 0 n (.slice none 0 0) (t.extract k1 m) 0 S4.out.out
  rw [hw9] at r9 m9 ⊢
  obtain ⟨⟨d0, d1, d2, d3, d4, d5⟩, _⟩ := six_cells r9
  refine bodyPost_ret (v := .tuple #[tokV 8 0 n (.slice none 0 0) (t.extract k1 m) 0, .int .i64 ((m : Int) + 2), .int .i64 0]) ?_ rfl ?_
  · simp [results, Tryz.results31, go_sem, d0, d1, d2, d3, d4, d5]
  · exact ⟨rfl, S4.out.laid m9⟩
theorem white_sees {t : ByteArray} {i : Nat} {c : UInt8} {s : List UInt8} (hc : isB c = false) (h : seesB t i (c :: s) = true) : whiteTo t i = i := by
  have h1 : seesB t i [c] = true := by
    unfold seesB at h ⊢
    obtain ⟨r, hr⟩ := List.isPrefixOf_iff_prefix.1 h
    exact List.isPrefixOf_iff_prefix.2 ⟨s ++ r, by rw [← hr]; rfl⟩
  apply ws_stop
  rintro ⟨hlt, hb⟩
  have e := drop_at t i hlt
  unfold seesB at h1
  rw [e] at h1
  have e2 : c = t.get! i := by
    obtain ⟨r, hr⟩ := List.isPrefixOf_iff_prefix.1 h1
    injection hr
  rw [← e2, hc] at hb
  cases hb
theorem refInstr_any (t : ByteArray) (k : Nat) (w : World) (ht : t.size ≤ 4000000) (hk : k ≤ t.size) :
    Calls Tryz.prog 31 #[.string t, .int .i64 (k : Int)] w (RtPost w (instrF t k)) := by
  cases hn : nameF t k with
  | error e0 =>
    have he : e0 = 23 := by
      unfold nameF at hn
      split at hn
      · cases hn
      · injection hn with hn; exact hn.symm
    subst he
    have hq : qualF t k = .error 23 := by unfold qualF; rw [hn]
    have hr : instrF t k = .error 23 := by unfold instrF; rw [hn]
    exact (rinstr_err t k w ht hk 23 (by decide) hq).mono fun e w' z => rt_err hr z
  | ok r =>
    obtain ⟨n, i⟩ := r
    obtain ⟨a1, a2, a3, _⟩ := name_ok hn
    cases hnb : nameB n
    · have hr : instrF t k = .error 24 := by unfold instrF; rw [hn]; simp only [hnb, if_true]
      cases hs : (splitF n).2.2
      · have hq : qualF t k = .error 24 := by unfold qualF; rw [hn]; simp [hs]
        exact (rinstr_err t k w ht hk 24 (by decide) hq).mono fun e w' z => rt_err hr z
      · have hq : qualF t k = .ok (n, i) := by unfold qualF; rw [hn]; simp [hs]
        exact (rinstr_bad t k w ht hk n i hq hn hnb).mono fun e w' z => rt_err hr z
    · have hq : qualF t k = .ok (n, i) := by unfold qualF; rw [hn]; simp [splitF_name n hnb]
      cases hx : xmlB n
      · cases hsq : seesB t i [63, 62]
        · by_cases hg : whiteTo t i = i
          · have hr : instrF t k = .error 23 := by unfold instrF; rw [hn]; simp [hnb, hx, hg, hsq]
            exact (rinstr_gap t k w ht hk n i hq hn hnb hx hsq hg).mono fun e w' z => rt_err hr z
          · cases hf : findF t (whiteTo t i) [63, 62] with
            | none =>
              have hr : instrF t k = .error 23 := by unfold instrF; rw [hn]; simp [hnb, hx, hg, hf]
              exact (rinstr_open t k w ht hk n i hq hn hnb hx hsq hg hf).mono fun e w' z => rt_err hr z
            | some m =>
              have hr : instrF t k = .ok (⟨8, n, [], t.extract (whiteTo t i) m, 0⟩, m + 2) := by unfold instrF; rw [hn]; simp [hnb, hx, hg, hf]
              exact (rinstr_good t k w ht hk n i hq hn hnb hx hsq hg m hf).mono fun e w' z => rt_plain hr z
        · have hw := white_sees (by decide) hsq
          have hf : findF t i [63, 62] = some i := (find_iff a2).2 ⟨Nat.le_refl _, a2, hsq, fun j h1 h2 => by omega⟩
          have hr : instrF t k = .ok (⟨8, n, [], ⟨#[]⟩, 0⟩, i + 2) := by
            unfold instrF
            rw [hn]
            simp only [hnb, hx, hw, hsq, hf]
            simp
            rfl
          exact (rinstr_end t k w ht hk n i hq hn hnb hx hsq).mono fun e w' z => rt_plain hr z
      · have hr : instrF t k = .error 29 := by unfold instrF; rw [hn]; simp [hnb, hx]
        exact (rinstr_xml t k w ht hk n i hq hn hnb hx).mono fun e w' z => rt_err hr z
end Go.Proofs.YtidimpepfkdcmaaGreatDoor
