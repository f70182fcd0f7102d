/- Proved here: the reader's closing and comment: what they read, where they leave the reader. -/
import Derived.Test.YtcfecnleibeegaaGreatDoorPair
namespace Go.Proofs.YtcfecnleibeegaaGreatDoor
open Go.RowKit

/-- Pairs as they lie in memory of the call's own. -/
def pairsV (l : List (ByteArray × ByteArray)) : List Value := l.flatMap fun p => [.string p.1, .string p.2]
def PairsAt (w : World) (B : Nat) (v : Value) (l : List (ByteArray × ByteArray)) : Prop := w.ownsRow B 53 2 v l.length (pairsV l)
theorem PairsAt.nil (w : World) (B : Nat) : PairsAt w B (.slice none 0 0) [] := World.ownsRow_nil w B _ 2
/-- What the reader's token, or a part of it, answers. -/
def TokPost (R b off cap : Nat) (t : ByteArray) (w : World) (r : Except Nat (Tok × Nat)) (e : Ending) (w' : World) : Prop := match r with
  | .ok (x, i) => ∃ pv, e = .returned (.tuple #[tokV x.kind 0 x.name pv x.text x.refs, .int .i64 0]) ∧ PairsAt w' w.heap.size pv x.pairs ∧ Rd w' R (rv b off cap t) i
  | .error e0 => e = .returned (.tuple #[tokV 0 0 ⟨#[]⟩ (.slice none 0 0) ⟨#[]⟩ 0, .int .i64 (e0 : Int)])
theorem TokPost.plain {R b off cap i kind refs : Nat} {t name text : ByteArray} {w w' : World} {e : Ending} (h : e = .returned (.tuple #[tokV kind 0 name (.slice none 0 0) text refs, .int .i64 0])) (hr : Rd w' R (rv b off cap t) i) : TokPost R b off cap t w (.ok (⟨kind, name, [], text, refs⟩, i)) e w' :=
  ⟨_, h, PairsAt.nil _ _, hr⟩

set_option maxHeartbeats 1000000 in
theorem closing_name23 (t : ByteArray) (b off cap R k : Nat) (w0 w : World) (E : Env w0 R b off cap t) (hB : Below w0.heap.size w0 w) (h : Rd w R (rv b off cap t) k) (hk : k ≤ t.size) (hn : qualF t k = .error 23) :
    Calls Tryz.prog 53 #[.pointer (some ⟨R, 0, none⟩)] w fun e w' => e = .returned (.tuple #[tokV 0 0 ⟨#[]⟩ (.slice none 0 0) ⟨#[]⟩ 0, .int .i64 23]) ∧ Moved R w w' := by
  have Q := Lib.hid (fun W g (y : Below w0.heap.size w0 W) => (qual_any t b off cap R k w0 W E y g hk).mono fun _ _ z => And.intro (qual_post_no hn z.1) z.2)
  have HE := Lib.hid (And.intro E (And.intro hB h))
  clear h E hB hn
  go_enter Tryz.func53, Tryz.ntmps53
  go_wp2_with (fail)
  obtain ⟨W1, hW1⟩ : ∃ W, w.alloc TOK0 = W := ⟨_, rfl⟩
  rw [hW1]
  have S1 := Lib.hid (St.first HE.out.1 HE.out.2.1 HE.out.2.2 hW1)
  clear hW1
  refine (Q.out W1 S1.out.rd S1.out.below).mono ?_
  rintro e w2 ⟨⟨rfl, j, hj, hr⟩, hm⟩
  have S2 := Lib.hid (S1.out.moved hr hm)
  clear hr hm
  obtain ⟨⟨c0, c1, c2, c3, c4, c5⟩, ⟨f0, f1, f2, f3, f4, f5⟩⟩ := six_cells S2.out.out
  go_wp2_with (fail)
  change bodyPost _ _ _ _ _ (setTok w2 w.heap.size 0 0 ⟨#[]⟩ (.slice none 0 0) ⟨#[]⟩ 0)
  obtain ⟨w9, hw9⟩ : ∃ W, setTok w2 w.heap.size 0 0 ⟨#[]⟩ (.slice none 0 0) ⟨#[]⟩ 0 = W := ⟨_, rfl⟩
  obtain ⟨r9, m9⟩ := setTok_row 0 0 ⟨#[]⟩ (.slice none 0 0) ⟨#[]⟩ 0 S2.out.out
  rw [hw9] at r9 m9 ⊢
  obtain ⟨⟨d0, d1, d2, d3, d4, d5⟩, _⟩ := six_cells r9
  refine bodyPost_ret (v := .tuple #[tokV 0 0 ⟨#[]⟩ (.slice none 0 0) ⟨#[]⟩ 0, .int .i64 23]) ?_ rfl ?_
  · rw [results_cell_tmp rfl]
    go_simp
  · obtain ⟨z1, z2⟩ := S2.out.laid m9
    exact ⟨rfl, z2⟩
set_option maxHeartbeats 1000000 in
theorem closing_name24 (t : ByteArray) (b off cap R k : Nat) (w0 w : World) (E : Env w0 R b off cap t) (hB : Below w0.heap.size w0 w) (h : Rd w R (rv b off cap t) k) (hk : k ≤ t.size) (hn : qualF t k = .error 24) :
    Calls Tryz.prog 53 #[.pointer (some ⟨R, 0, none⟩)] w fun e w' => e = .returned (.tuple #[tokV 0 0 ⟨#[]⟩ (.slice none 0 0) ⟨#[]⟩ 0, .int .i64 24]) ∧ Moved R w w' := by
  have Q := Lib.hid (fun W g (y : Below w0.heap.size w0 W) => (qual_any t b off cap R k w0 W E y g hk).mono fun _ _ z => And.intro (qual_post_no hn z.1) z.2)
  have HE := Lib.hid (And.intro E (And.intro hB h))
  clear h E hB hn
  go_enter Tryz.func53, Tryz.ntmps53
  go_wp2_with (fail)
  obtain ⟨W1, hW1⟩ : ∃ W, w.alloc TOK0 = W := ⟨_, rfl⟩
  rw [hW1]
  have S1 := Lib.hid (St.first HE.out.1 HE.out.2.1 HE.out.2.2 hW1)
  clear hW1
  refine (Q.out W1 S1.out.rd S1.out.below).mono ?_
  rintro e w2 ⟨⟨rfl, j, hj, hr⟩, hm⟩
  have S2 := Lib.hid (S1.out.moved hr hm)
  clear hr hm
  obtain ⟨⟨c0, c1, c2, c3, c4, c5⟩, ⟨f0, f1, f2, f3, f4, f5⟩⟩ := six_cells S2.out.out
  go_wp2_with (fail)
  change bodyPost _ _ _ _ _ (setTok w2 w.heap.size 0 0 ⟨#[]⟩ (.slice none 0 0) ⟨#[]⟩ 0)
  obtain ⟨w9, hw9⟩ : ∃ W, setTok w2 w.heap.size 0 0 ⟨#[]⟩ (.slice none 0 0) ⟨#[]⟩ 0 = W := ⟨_, rfl⟩
  obtain ⟨r9, m9⟩ := setTok_row 0 0 ⟨#[]⟩ (.slice none 0 0) ⟨#[]⟩ 0 S2.out.out
  rw [hw9] at r9 m9 ⊢
  obtain ⟨⟨d0, d1, d2, d3, d4, d5⟩, _⟩ := six_cells r9
  refine bodyPost_ret (v := .tuple #[tokV 0 0 ⟨#[]⟩ (.slice none 0 0) ⟨#[]⟩ 0, .int .i64 24]) ?_ rfl ?_
  · rw [results_cell_tmp rfl]
    go_simp
  · obtain ⟨z1, z2⟩ := S2.out.laid m9
    exact ⟨rfl, z2⟩
set_option maxHeartbeats 1000000 in
theorem closing_end (t : ByteArray) (b off cap R k : Nat) (w0 w : World) (E : Env w0 R b off cap t) (hB : Below w0.heap.size w0 w) (h : Rd w R (rv b off cap t) k) (hk : k ≤ t.size) (n : ByteArray) (i : Nat) (hn : qualF t k = .ok (n, i)) (hs : seesB t (whiteTo t i) [62] = false) :
    Calls Tryz.prog 53 #[.pointer (some ⟨R, 0, none⟩)] w fun e w' => e = .returned (.tuple #[tokV 0 0 ⟨#[]⟩ (.slice none 0 0) ⟨#[]⟩ 0, .int .i64 23]) ∧ Moved R w w' := by
  have hi := (name_ok (qual_ok hn).1).2.1
  have Q := Lib.hid (fun W g (y : Below w0.heap.size w0 W) => (qual_any t b off cap R k w0 W E y g hk).mono fun _ _ z => And.intro (qual_post hn z.1) z.2)
  have BL := Lib.hid (fun W g (y : Txt W b off cap t) => blanks_any t b off cap R i W g hi y E.ne)
  have hw := white_le hi
  have TK := Lib.hid (fun W g (y : Txt W b off cap t) => take_no t ⟨#[62]⟩ b off cap R (whiteTo t i) W g hw y hs)
  have HE := Lib.hid (And.intro E (And.intro hB h))
  clear h E hB hn hs
  go_enter Tryz.func53, Tryz.ntmps53
  go_wp2_with (fail)
  obtain ⟨W1, hW1⟩ : ∃ W, w.alloc TOK0 = W := ⟨_, rfl⟩
  rw [hW1]
  have S1 := Lib.hid (St.first HE.out.1 HE.out.2.1 HE.out.2.2 hW1)
  clear hW1
  refine (Q.out W1 S1.out.rd S1.out.below).mono ?_
  rintro e w2 ⟨⟨rfl, hr⟩, hm⟩
  have S2 := Lib.hid (S1.out.moved hr hm)
  clear hr hm
  go_wp2_with (fail)
  refine (BL.out w2 S2.out.rd S2.out.txt).mono ?_
  rintro e w3 ⟨rfl, hr, hm⟩
  have S3 := Lib.hid (S2.out.moved hr hm)
  clear hr hm
  go_wp2_with (fail)
  refine (TK.out w3 S3.out.rd S3.out.txt).mono ?_
  rintro e w4 ⟨rfl, hr, hm⟩
  have S4 := Lib.hid (S3.out.moved hr hm)
  clear hr hm
  obtain ⟨⟨c0, c1, c2, c3, c4, c5⟩, ⟨f0, f1, f2, f3, f4, f5⟩⟩ := six_cells S4.out.out
  go_wp2_with (fail)
  change bodyPost _ _ _ _ _ (setTok w4 w.heap.size 0 0 ⟨#[]⟩ (.slice none 0 0) ⟨#[]⟩ 0)
  obtain ⟨w9, hw9⟩ : ∃ W, setTok w4 w.heap.size 0 0 ⟨#[]⟩ (.slice none 0 0) ⟨#[]⟩ 0 = W := ⟨_, rfl⟩
  obtain ⟨r9, m9⟩ := setTok_row 0 0 ⟨#[]⟩ (.slice none 0 0) ⟨#[]⟩ 0 S4.out.out
  rw [hw9] at r9 m9 ⊢
  obtain ⟨⟨d0, d1, d2, d3, d4, d5⟩, _⟩ := six_cells r9
  refine bodyPost_ret (v := .tuple #[tokV 0 0 ⟨#[]⟩ (.slice none 0 0) ⟨#[]⟩ 0, .int .i64 23]) ?_ rfl ?_
  · rw [results_cell_tmp rfl]
    go_simp
  · obtain ⟨z1, z2⟩ := S4.out.laid m9
    exact ⟨rfl, z2⟩
set_option maxHeartbeats 1000000 in
theorem closing_good (t : ByteArray) (b off cap R k : Nat) (w0 w : World) (E : Env w0 R b off cap t) (hB : Below w0.heap.size w0 w) (h : Rd w R (rv b off cap t) k) (hk : k ≤ t.size) (n : ByteArray) (i : Nat) (hn : qualF t k = .ok (n, i)) (hs : seesB t (whiteTo t i) [62] = true) :
    Calls Tryz.prog 53 #[.pointer (some ⟨R, 0, none⟩)] w fun e w' => e = .returned (.tuple #[tokV 3 0 n (.slice none 0 0) ⟨#[]⟩ 0, .int .i64 0]) ∧ Rd w' R (rv b off cap t) (whiteTo t i + 1) ∧ Moved R w w' := by
  have hi := (name_ok (qual_ok hn).1).2.1
  have Q := Lib.hid (fun W g (y : Below w0.heap.size w0 W) => (qual_any t b off cap R k w0 W E y g hk).mono fun _ _ z => And.intro (qual_post hn z.1) z.2)
  have BL := Lib.hid (fun W g (y : Txt W b off cap t) => blanks_any t b off cap R i W g hi y E.ne)
  have hw := white_le hi
  have TK := Lib.hid (fun W g (y : Txt W b off cap t) => take_yes t ⟨#[62]⟩ b off cap R (whiteTo t i) W g hw y (by decide) hs)
  have HE := Lib.hid (And.intro E (And.intro hB h))
  clear h E hB hn hs
  go_enter Tryz.func53, Tryz.ntmps53
  go_wp2_with (fail)
  obtain ⟨W1, hW1⟩ : ∃ W, w.alloc TOK0 = W := ⟨_, rfl⟩
  rw [hW1]
  have S1 := Lib.hid (St.first HE.out.1 HE.out.2.1 HE.out.2.2 hW1)
  clear hW1
  refine (Q.out W1 S1.out.rd S1.out.below).mono ?_
  rintro e w2 ⟨⟨rfl, hr⟩, hm⟩
  have S2 := Lib.hid (S1.out.moved hr hm)
  clear hr hm
  go_wp2_with (fail)
  refine (BL.out w2 S2.out.rd S2.out.txt).mono ?_
  rintro e w3 ⟨rfl, hr, hm⟩
  have S3 := Lib.hid (S2.out.moved hr hm)
  clear hr hm
  go_wp2_with (fail)
  refine (TK.out w3 S3.out.rd S3.out.txt).mono ?_
  rintro e w4 ⟨rfl, hr, hm⟩
  have S4 := Lib.hid (S3.out.moved hr hm)
  clear hr hm
  obtain ⟨⟨c0, c1, c2, c3, c4, c5⟩, ⟨f0, f1, f2, f3, f4, f5⟩⟩ := six_cells S4.out.out
  go_wp2_with (fail)
  change bodyPost _ _ _ _ _ (setTok w4 w.heap.size 3 0 n (.slice none 0 0) ⟨#[]⟩ 0)
  obtain ⟨w9, hw9⟩ : ∃ W, setTok w4 w.heap.size 3 0 n (.slice none 0 0) ⟨#[]⟩ 0 = W := ⟨_, rfl⟩
  obtain ⟨r9, m9⟩ := setTok_row 3 0 n (.slice none 0 0) ⟨#[]⟩ 0 S4.out.out
  rw [hw9] at r9 m9 ⊢
  obtain ⟨⟨d0, d1, d2, d3, d4, d5⟩, _⟩ := six_cells r9
  refine bodyPost_ret (v := .tuple #[tokV 3 0 n (.slice none 0 0) ⟨#[]⟩ 0, .int .i64 0]) ?_ rfl ?_
  · rw [results_cell_tmp rfl]
    go_simp
  · obtain ⟨z1, z2⟩ := S4.out.laid m9
    exact ⟨rfl, z1, z2⟩
theorem closing_any (t : ByteArray) (b off cap R k : Nat) (w0 w : World) (E : Env w0 R b off cap t) (hB : Below w0.heap.size w0 w) (h : Rd w R (rv b off cap t) k) (hk : k ≤ t.size) :
    Calls Tryz.prog 53 #[.pointer (some ⟨R, 0, none⟩)] w fun e w' => TokPost R b off cap t w (closingF t k) e w' ∧ Moved R w w' := by
  unfold closingF
  cases hn : qualF t k with
  | error e0 =>
    rcases qual_err hn with rfl | rfl
    · exact (closing_name23 t b off cap R k w0 w E hB h hk hn).mono fun _ _ z => z
    · exact (closing_name24 t b off cap R k w0 w E hB h hk hn).mono fun _ _ z => z
  | ok p =>
    obtain ⟨n, i⟩ := p
    simp only
    cases hs : seesB t (whiteTo t i) [62]
    · exact (closing_end t b off cap R k w0 w E hB h hk n i hn hs).mono fun _ _ z => z
    · exact (closing_good t b off cap R k w0 w E hB h hk n i hn hs).mono fun _ _ z => ⟨TokPost.plain z.1 z.2.1, z.2.2⟩
set_option maxHeartbeats 1000000 in
theorem comment_none (t : ByteArray) (b off cap R k : Nat) (w0 w : World) (E : Env w0 R b off cap t) (hB : Below w0.heap.size w0 w) (h : Rd w R (rv b off cap t) k) (hk : k ≤ t.size) (hf : findF t k [45, 45] = none) :
    Calls Tryz.prog 50 #[.pointer (some ⟨R, 0, none⟩)] w fun e w' => e = .returned (.tuple #[tokV 0 0 ⟨#[]⟩ (.slice none 0 0) ⟨#[]⟩ 0, .int .i64 23]) ∧ Moved R w w' := by
  have U := Lib.hid (fun W g (y : Below w0.heap.size w0 W) => upTo_no t ⟨#[45, 45]⟩ b off cap R k w0 W E y g hk (by decide) (by decide) hf)
  have HE := Lib.hid (And.intro E (And.intro hB h))
  clear h E hB hf
  go_enter Tryz.func50, Tryz.ntmps50
  go_wp2_with (fail)
  obtain ⟨W1, hW1⟩ : ∃ W, w.alloc TOK0 = W := ⟨_, rfl⟩
  rw [hW1]
  have S1 := Lib.hid (St.first HE.out.1 HE.out.2.1 HE.out.2.2 hW1)
  clear hW1
  refine (U.out W1 S1.out.rd S1.out.below).mono ?_
  rintro e w2 ⟨⟨q, n, c, rfl⟩, hr, hm⟩
  have S2 := Lib.hid (S1.out.moved hr hm)
  clear hr hm
  obtain ⟨⟨c0, c1, c2, c3, c4, c5⟩, ⟨f0, f1, f2, f3, f4, f5⟩⟩ := six_cells S2.out.out
  go_wp2_with (fail)
  change bodyPost _ _ _ _ _ (setTok w2 w.heap.size 0 0 ⟨#[]⟩ (.slice none 0 0) ⟨#[]⟩ 0)
  obtain ⟨w9, hw9⟩ : ∃ W, setTok w2 w.heap.size 0 0 ⟨#[]⟩ (.slice none 0 0) ⟨#[]⟩ 0 = W := ⟨_, rfl⟩
  obtain ⟨r9, m9⟩ := setTok_row 0 0 ⟨#[]⟩ (.slice none 0 0) ⟨#[]⟩ 0 S2.out.out
  rw [hw9] at r9 m9 ⊢
  obtain ⟨⟨d0, d1, d2, d3, d4, d5⟩, _⟩ := six_cells r9
  refine bodyPost_ret (v := .tuple #[tokV 0 0 ⟨#[]⟩ (.slice none 0 0) ⟨#[]⟩ 0, .int .i64 23]) ?_ rfl ?_
  · rw [results_cell_tmp rfl]
    go_simp
  · obtain ⟨z1, z2⟩ := S2.out.laid m9
    exact ⟨rfl, z2⟩
set_option maxHeartbeats 1000000 in
theorem comment_open (t : ByteArray) (b off cap R k : Nat) (w0 w : World) (E : Env w0 R b off cap t) (hB : Below w0.heap.size w0 w) (h : Rd w R (rv b off cap t) k) (hk : k ≤ t.size) (i : Nat) (hf : findF t k [45, 45] = some i) (hs : seesB t (i + 2) [62] = false) :
    Calls Tryz.prog 50 #[.pointer (some ⟨R, 0, none⟩)] w fun e w' => e = .returned (.tuple #[tokV 0 0 ⟨#[]⟩ (.slice none 0 0) ⟨#[]⟩ 0, .int .i64 23]) ∧ Moved R w w' := by
  have U := Lib.hid (fun W g (y : Below w0.heap.size w0 W) => upTo_yes t ⟨#[45, 45]⟩ b off cap R k i w0 W E y g hk (by decide) (by decide) hf)
  have hi2 : i + 2 ≤ t.size := (find_some hk hf).2.2
  have TK := Lib.hid (fun W g (y : Txt W b off cap t) => take_no t ⟨#[62]⟩ b off cap R (i + 2) W g hi2 y hs)
  have HE := Lib.hid (And.intro E (And.intro hB h))
  clear h E hB hf hs
  go_enter Tryz.func50, Tryz.ntmps50
  go_wp2_with (fail)
  obtain ⟨W1, hW1⟩ : ∃ W, w.alloc TOK0 = W := ⟨_, rfl⟩
  rw [hW1]
  have S1 := Lib.hid (St.first HE.out.1 HE.out.2.1 HE.out.2.2 hW1)
  clear hW1
  refine (U.out W1 S1.out.rd S1.out.below).mono ?_
  rintro e w2 ⟨⟨q, c, rfl, q1, q2, q3⟩, hr, hm⟩
  have S2 := Lib.hid (S1.out.moved hr hm)
  clear hr hm
  clear q1 q2 q3
  go_wp2_with (fail)
  refine (TK.out w2 S2.out.rd S2.out.txt).mono ?_
  rintro e w3 ⟨rfl, hr, hm⟩
  have S3 := Lib.hid (S2.out.moved hr hm)
  clear hr hm
  obtain ⟨⟨c0, c1, c2, c3, c4, c5⟩, ⟨f0, f1, f2, f3, f4, f5⟩⟩ := six_cells S3.out.out
  go_wp2_with (fail)
  change bodyPost _ _ _ _ _ (setTok w3 w.heap.size 0 0 ⟨#[]⟩ (.slice none 0 0) ⟨#[]⟩ 0)
  obtain ⟨w9, hw9⟩ : ∃ W, setTok w3 w.heap.size 0 0 ⟨#[]⟩ (.slice none 0 0) ⟨#[]⟩ 0 = W := ⟨_, rfl⟩
  obtain ⟨r9, m9⟩ := setTok_row 0 0 ⟨#[]⟩ (.slice none 0 0) ⟨#[]⟩ 0 S3.out.out
  rw [hw9] at r9 m9 ⊢
  obtain ⟨⟨d0, d1, d2, d3, d4, d5⟩, _⟩ := six_cells r9
  refine bodyPost_ret (v := .tuple #[tokV 0 0 ⟨#[]⟩ (.slice none 0 0) ⟨#[]⟩ 0, .int .i64 23]) ?_ rfl ?_
  · rw [results_cell_tmp rfl]
    go_simp
  · obtain ⟨z1, z2⟩ := S3.out.laid m9
    exact ⟨rfl, z2⟩
theorem holds_moved {O : Obj} {w0 w W W' : World} {R b off cap j : Nat} {t s : ByteArray} {q : Option Addr} (S : St O w0 w W R b off cap t j) (h : HoldsB W q s) (hm : Moved R W W') : HoldsB W' q s := by
  intro h0
  obtain ⟨b', o', e, hc⟩ := h h0
  have hne : b' ≠ R := by
    rintro rfl
    have h1 := hc 0 h0
    rw [Nat.add_zero, cell_of_row _ _ _ _ _ _ S.rd] at h1
    rcases o' with _ | _ | o' <;> simp at h1
  refine ⟨b', o', e, fun j hj => ?_⟩
  have h1 := hc j hj
  rw [World.cell?_of_block (hm.block b' (World.block_lt_of_cell? _ _ h1) (fun e => by injection e with e; exact hne e))]
  exact h1
set_option maxHeartbeats 1000000 in
theorem comment_good (t : ByteArray) (b off cap R k : Nat) (w0 w : World) (E : Env w0 R b off cap t) (hB : Below w0.heap.size w0 w) (h : Rd w R (rv b off cap t) k) (hk : k ≤ t.size) (i : Nat) (hf : findF t k [45, 45] = some i) (hs : seesB t (i + 2) [62] = true) :
    Calls Tryz.prog 50 #[.pointer (some ⟨R, 0, none⟩)] w fun e w' => e = .returned (.tuple #[tokV 7 0 ⟨#[]⟩ (.slice none 0 0) (t.extract k i) 0, .int .i64 0]) ∧ Rd w' R (rv b off cap t) (i + 3) ∧ Moved R w w' := by
  have hsz : (t.extract k i).size = i - k := by
    obtain ⟨_, _, g3⟩ := find_some hk hf
    simp only [List.length_cons, List.length_nil] at g3
    simp
    omega
  have U := Lib.hid (fun W g (y : Below w0.heap.size w0 W) => upTo_yes t ⟨#[45, 45]⟩ b off cap R k i w0 W E y g hk (by decide) (by decide) hf)
  have hi2 : i + 2 ≤ t.size := (find_some hk hf).2.2
  have TK := Lib.hid (fun W g (y : Txt W b off cap t) => take_yes t ⟨#[62]⟩ b off cap R (i + 2) W g hi2 y (by decide) hs)
  have HE := Lib.hid (And.intro E (And.intro hB h))
  clear h E hB hf hs
  go_enter Tryz.func50, Tryz.ntmps50
  go_wp2_with (fail)
  obtain ⟨W1, hW1⟩ : ∃ W, w.alloc TOK0 = W := ⟨_, rfl⟩
  rw [hW1]
  have S1 := Lib.hid (St.first HE.out.1 HE.out.2.1 HE.out.2.2 hW1)
  clear hW1
  refine (U.out W1 S1.out.rd S1.out.below).mono ?_
  rintro e w2 ⟨⟨q, c, rfl, q1, q2, q3⟩, hr, hm⟩
  have S2 := Lib.hid (S1.out.moved hr hm)
  clear hr hm
  have hcv := fun W (y : HoldsB W q (t.extract k i)) => conv_str y c (fun e => absurd e q3)
  rw [hsz] at hcv
  have HC := Lib.hid hcv
  have Q1 := Lib.hid q1
  clear hcv q1 q2 q3
  go_wp2_with (fail)
  refine (TK.out w2 S2.out.rd S2.out.txt).mono ?_
  rintro e w3 ⟨rfl, hr, hm⟩
  have S3 := Lib.hid (S2.out.moved hr hm)
  have hcv := HC.out w3 (holds_moved S2.out Q1.out hm)
  clear hr hm
  obtain ⟨⟨c0, c1, c2, c3, c4, c5⟩, ⟨f0, f1, f2, f3, f4, f5⟩⟩ := six_cells S3.out.out
  go_wp2_with (fail)
  change bodyPost _ _ _ _ _ (setTok w3 w.heap.size 7 0 ⟨#[]⟩ (.slice none 0 0) (t.extract k i) 0)
  obtain ⟨w9, hw9⟩ : ∃ W, setTok w3 w.heap.size 7 0 ⟨#[]⟩ (.slice none 0 0) (t.extract k i) 0 = W := ⟨_, rfl⟩
  obtain ⟨r9, m9⟩ := setTok_row 7 0 ⟨#[]⟩ (.slice none 0 0) (t.extract k i) 0 S3.out.out
  rw [hw9] at r9 m9 ⊢
  obtain ⟨⟨d0, d1, d2, d3, d4, d5⟩, _⟩ := six_cells r9
  refine bodyPost_ret (v := .tuple #[tokV 7 0 ⟨#[]⟩ (.slice none 0 0) (t.extract k i) 0, .int .i64 0]) ?_ rfl ?_
  · rw [results_cell_tmp rfl]
    go_simp
  · obtain ⟨z1, z2⟩ := S3.out.laid m9
    exact ⟨rfl, z1, z2⟩
theorem comment_any (t : ByteArray) (b off cap R k : Nat) (w0 w : World) (E : Env w0 R b off cap t) (hB : Below w0.heap.size w0 w) (h : Rd w R (rv b off cap t) k) (hk : k ≤ t.size) :
    Calls Tryz.prog 50 #[.pointer (some ⟨R, 0, none⟩)] w fun e w' => TokPost R b off cap t w (commentF t k) e w' ∧ Moved R w w' := by
  unfold commentF
  cases hf : findF t k [45, 45] with
  | none => exact (comment_none t b off cap R k w0 w E hB h hk hf).mono fun _ _ z => z
  | some i =>
    simp only
    cases hs : seesB t (i + 2) [62]
    · exact (comment_open t b off cap R k w0 w E hB h hk i hf hs).mono fun _ _ z => z
    · exact (comment_good t b off cap R k w0 w E hB h hk i hf hs).mono fun _ _ z => ⟨TokPost.plain z.1 z.2.1, z.2.2⟩
set_option maxHeartbeats 1000000 in
theorem data_no (t : ByteArray) (b off cap R k : Nat) (w0 w : World) (E : Env w0 R b off cap t) (hB : Below w0.heap.size w0 w) (h : Rd w R (rv b off cap t) k) (hk : k ≤ t.size) (hf : findF t k [93, 93, 62] = none) :
    Calls Tryz.prog 51 #[.pointer (some ⟨R, 0, none⟩)] w fun e w' => e = .returned (.tuple #[tokV 0 0 ⟨#[]⟩ (.slice none 0 0) ⟨#[]⟩ 0, .int .i64 23]) ∧ Moved R w w' := by
  have U := Lib.hid (fun W g (y : Below w0.heap.size w0 W) => upTo_no t ⟨#[93, 93, 62]⟩ b off cap R k w0 W E y g hk (by decide) (by decide) hf)
  have HE := Lib.hid (And.intro E (And.intro hB h))
  clear h E hB hf
  go_enter Tryz.func51, Tryz.ntmps51
  go_wp2_with (fail)
  obtain ⟨W1, hW1⟩ : ∃ W, w.alloc TOK0 = W := ⟨_, rfl⟩
  rw [hW1]
  have S1 := Lib.hid (St.first HE.out.1 HE.out.2.1 HE.out.2.2 hW1)
  clear hW1
  refine (U.out W1 S1.out.rd S1.out.below).mono ?_
  rintro e w2 ⟨⟨q, n, c, rfl⟩, hr, hm⟩
  have S2 := Lib.hid (S1.out.moved hr hm)
  clear hr hm
  obtain ⟨⟨c0, c1, c2, c3, c4, c5⟩, ⟨f0, f1, f2, f3, f4, f5⟩⟩ := six_cells S2.out.out
  go_wp2_with (fail)
  change bodyPost _ _ _ _ _ (setTok w2 w.heap.size 0 0 ⟨#[]⟩ (.slice none 0 0) ⟨#[]⟩ 0)
  obtain ⟨w9, hw9⟩ : ∃ W, setTok w2 w.heap.size 0 0 ⟨#[]⟩ (.slice none 0 0) ⟨#[]⟩ 0 = W := ⟨_, rfl⟩
  obtain ⟨r9, m9⟩ := setTok_row 0 0 ⟨#[]⟩ (.slice none 0 0) ⟨#[]⟩ 0 S2.out.out
  rw [hw9] at r9 m9 ⊢
  obtain ⟨⟨d0, d1, d2, d3, d4, d5⟩, _⟩ := six_cells r9
  refine bodyPost_ret (v := .tuple #[tokV 0 0 ⟨#[]⟩ (.slice none 0 0) ⟨#[]⟩ 0, .int .i64 23]) ?_ rfl ?_
  · rw [results_cell_tmp rfl]
    go_simp
  · obtain ⟨z1, z2⟩ := S2.out.laid m9
    exact ⟨rfl, z2⟩
set_option maxHeartbeats 1000000 in
theorem data_yes (t : ByteArray) (b off cap R k : Nat) (w0 w : World) (E : Env w0 R b off cap t) (hB : Below w0.heap.size w0 w) (h : Rd w R (rv b off cap t) k) (hk : k ≤ t.size) (i : Nat) (hf : findF t k [93, 93, 62] = some i) :
    Calls Tryz.prog 51 #[.pointer (some ⟨R, 0, none⟩)] w fun e w' => e = .returned (.tuple #[tokV 6 0 ⟨#[]⟩ (.slice none 0 0) (t.extract k i) 0, .int .i64 0]) ∧ Rd w' R (rv b off cap t) (i + 3) ∧ Moved R w w' := by
  have hsz : (t.extract k i).size = i - k := by
    obtain ⟨_, _, g3⟩ := find_some hk hf
    simp only [List.length_cons, List.length_nil] at g3
    simp
    omega
  have U := Lib.hid (fun W g (y : Below w0.heap.size w0 W) => upTo_yes t ⟨#[93, 93, 62]⟩ b off cap R k i w0 W E y g hk (by decide) (by decide) hf)
  have HE := Lib.hid (And.intro E (And.intro hB h))
  clear h E hB hf
  go_enter Tryz.func51, Tryz.ntmps51
  go_wp2_with (fail)
  obtain ⟨W1, hW1⟩ : ∃ W, w.alloc TOK0 = W := ⟨_, rfl⟩
  rw [hW1]
  have S1 := Lib.hid (St.first HE.out.1 HE.out.2.1 HE.out.2.2 hW1)
  clear hW1
  refine (U.out W1 S1.out.rd S1.out.below).mono ?_
  rintro e w2 ⟨⟨q, c, rfl, q1, q2, q3⟩, hr, hm⟩
  have S2 := Lib.hid (S1.out.moved hr hm)
  clear hr hm
  have hcv := conv_str q1 c (fun e => absurd e q3)
  rw [hsz] at hcv
  clear q1 q2 q3
  obtain ⟨⟨c0, c1, c2, c3, c4, c5⟩, ⟨f0, f1, f2, f3, f4, f5⟩⟩ := six_cells S2.out.out
  go_wp2_with (fail)
  change bodyPost _ _ _ _ _ (setTok w2 w.heap.size 6 0 ⟨#[]⟩ (.slice none 0 0) (t.extract k i) 0)
  obtain ⟨w9, hw9⟩ : ∃ W, setTok w2 w.heap.size 6 0 ⟨#[]⟩ (.slice none 0 0) (t.extract k i) 0 = W := ⟨_, rfl⟩
  obtain ⟨r9, m9⟩ := setTok_row 6 0 ⟨#[]⟩ (.slice none 0 0) (t.extract k i) 0 S2.out.out
  rw [hw9] at r9 m9 ⊢
  obtain ⟨⟨d0, d1, d2, d3, d4, d5⟩, _⟩ := six_cells r9
  refine bodyPost_ret (v := .tuple #[tokV 6 0 ⟨#[]⟩ (.slice none 0 0) (t.extract k i) 0, .int .i64 0]) ?_ rfl ?_
  · rw [results_cell_tmp rfl]
    go_simp
  · obtain ⟨z1, z2⟩ := S2.out.laid m9
    exact ⟨rfl, z1, z2⟩
theorem data_any (t : ByteArray) (b off cap R k : Nat) (w0 w : World) (E : Env w0 R b off cap t) (hB : Below w0.heap.size w0 w) (h : Rd w R (rv b off cap t) k) (hk : k ≤ t.size) :
    Calls Tryz.prog 51 #[.pointer (some ⟨R, 0, none⟩)] w fun e w' => TokPost R b off cap t w (dataF t k) e w' ∧ Moved R w w' := by
  unfold dataF
  cases hf : findF t k [93, 93, 62] with
  | none => exact (data_no t b off cap R k w0 w E hB h hk hf).mono fun _ _ z => z
  | some i => exact (data_yes t b off cap R k w0 w E hB h hk i hf).mono fun _ _ z => ⟨TokPost.plain z.1 z.2.1, z.2.2⟩
end Go.Proofs.YtcfecnleibeegaaGreatDoor
