/- Proved here: what the document's tag answers. -/
import Derived.Test.YtidimpepfkdcmaaGreatDoorM24
import Derived.Test.YtidimpepfkdcmaaGreatDoorM34
import Derived.Test.YtidimpepfkdcmaaGreatDoorM10
import Derived.Test.YtidimpepfkdcmaaGreatDoorM35
namespace Go.Proofs.YtidimpepfkdcmaaGreatDoor
open Go.RowKit

theorem pair_cases {t a : ByteArray} {k i : Nat} (hi : i ≤ t.size) (hq : qualF t k = .ok (a, i)) : (valueZ t i = (⟨#[]⟩, -1) ∧ pairF t k = .error 23) ∨ ∃ (raw : ByteArray) (m : Nat), valueZ t i = (raw, (m : Int)) ∧ raw.size ≤ t.size ∧ i < m ∧ m ≤ t.size ∧
    pairF t k = if (readF (stepV raw) raw.size).2.2 = 0 then .ok ((a, ⟨(readF (stepV raw) raw.size).1.toArray⟩), m) else .error (readF (stepV raw) raw.size).2.2.toNat := by
  unfold pairF valueZ
  rw [hq]
  dsimp only
  cases he : equalsF t i with
  | none => exact .inl ⟨rfl, rfl⟩
  | some j =>
    dsimp only
    obtain ⟨y1, y2⟩ := equals_ok hi he
    cases hr : quotedF t j with
    | none => exact .inl ⟨rfl, rfl⟩
    | some r =>
      obtain ⟨z1, z2, z3⟩ := quoted_ok (raw := r.1) (m := r.2) y2 hr
      exact .inr ⟨r.1, r.2, rfl, z3, by omega, z2, rfl⟩
/-- How tag stands at its loop's head: its result's block, the token that it makes in block X, the pairs so far. -/
structure TSt (w W : World) (X : Nat) (kind : Int) (n : ByteArray) (pv : Value) (ps : List (ByteArray × ByteArray)) : Prop where
  out : W.heap[w.heap.size]? = some TOKR
  low : Below w.heap.size w W
  row : W.heap[X]? = some (.cells #[.int .i64 kind, .int .i64 0, .string n, pv, .string ⟨#[]⟩, .int .i64 0] 37)
  xlt : w.heap.size < X
  prs : RPairsAt W (X + 1) pv ps
theorem TSt.first {w W W' : World} {X : Nat} {n : ByteArray} (S : RSt w W) (hX : W.heap.size = X) (hW : W.alloc (.cells #[.int .i64 2, .int .i64 0, .string n, .slice none 0 0, .string ⟨#[]⟩, .int .i64 0] 37) = W') : TSt w W' X 2 n (.slice none 0 0) [] := by
  subst hW hX
  have hb : Below W.heap.size W (W.alloc (.cells #[.int .i64 2, .int .i64 0, .string n, .slice none 0 0, .string ⟨#[]⟩, .int .i64 0] 37)) := (Below.refl _ _).alloc (Nat.le_refl _) _
  exact ⟨(S.grew hb).out, (S.grew hb).low, heap_alloc_new W _, S.le, RPairsAt.nil _ _⟩
theorem TSt.rst {w W : World} {X : Nat} {kind : Int} {n : ByteArray} {pv : Value} {ps : List (ByteArray × ByteArray)} (S : TSt w W X kind n pv ps) : RSt w W := ⟨S.out, S.low⟩
theorem TSt.grew {w W W' : World} {X : Nat} {kind : Int} {n : ByteArray} {pv : Value} {ps : List (ByteArray × ByteArray)} (S : TSt w W X kind n pv ps) (h : Below W.heap.size W W') : TSt w W' X kind n pv ps := by
  have hx : X < W.heap.size := (Array.getElem?_eq_some_iff.1 S.row).1
  refine ⟨(S.rst.grew h).out, (S.rst.grew h).low, ?_, S.xlt, ?_⟩
  · rw [h.block _ hx]
    exact S.row
  · exact World.ownsRow.kept S.prs (row := none) ⟨h.os, h.tape, h.output, h.size, fun k hk _ => h.block k hk⟩ (by
      by_cases q : pv.ownBlock = none
      · exact .inl q
      · exact .inr q)
theorem TSt.laid {w W : World} (X : Nat) (kind : Int) (n : ByteArray) (S : TSt w W X kind n (.slice none 0 0) []) : TSt w (((W.setCell ⟨X, 3, none⟩ (.slice none 0 0)).setCell ⟨X, 4, none⟩ (.string ⟨#[]⟩)).setCell ⟨X, 5, none⟩ (.int .i64 0)) X kind n (.slice none 0 0) [] := by
  obtain ⟨r1, m1⟩ := setCell_row (k := 3) (.slice none 0 0) S.row
  obtain ⟨r2, m2⟩ := setCell_row (k := 4) (.string ⟨#[]⟩) r1
  obtain ⟨r, m3⟩ := setCell_row (k := 5) (.int .i64 0) r2
  have m := Moved.trans (Moved.trans m1 m2) m3
  have hw := S.rst.le
  refine ⟨?_, S.low.grown m S.low.size (fun k e => by injection e with e; have := S.xlt; omega), r, S.xlt, RPairsAt.nil _ _⟩
  rw [m.block _ hw (fun e => by injection e with e; have := S.xlt; omega)]
  exact S.out
theorem TSt.four {w W : World} {X : Nat} {n : ByteArray} {pv : Value} {ps : List (ByteArray × ByteArray)} (S : TSt w W X 2 n pv ps) : TSt w (W.setCell ⟨X, 0, none⟩ (.int .i64 4)) X 4 n pv ps := by
  obtain ⟨r, m⟩ := setCell_row (k := 0) (.int .i64 4) S.row
  have hw := S.rst.le
  refine ⟨?_, S.low.grown m S.low.size (fun k e => by injection e with e; have := S.xlt; omega), r, S.xlt, S.prs.kept m (S.prs.ne (Nat.lt_succ_self _))⟩
  rw [m.block _ hw (fun e => by injection e with e; have := S.xlt; omega)]
  exact S.out
/-- One pair more. -/
theorem TSt.more {w W w10 : World} {X : Nat} {kind : Int} {n : ByteArray} {pv v' : Value} {ps l : List (ByteArray × ByteArray)} (o1 : Obj) (S : TSt w W X kind n pv ps) (hg : (W.alloc o1).grownBy w10 pv.ownBlock) (p : RPairsAt w10 (X + 1) v' l) :
    w10.heap[X]? = some (.cells #[.int .i64 kind, .int .i64 0, .string n, pv, .string ⟨#[]⟩, .int .i64 0] 37) ∧ TSt w (w10.setCell ⟨X, 3, none⟩ v') X kind n v' l := by
  have l1 := S.rst.le
  have l2 := (Array.getElem?_eq_some_iff.1 S.row).1
  have hx := S.xlt
  have z1 : (W.alloc o1).heap.size = W.heap.size + 1 := by simp
  have h1 : w10.heap[w.heap.size]? = some TOKR := by
    refine (hg.block _ (by omega) (fun e => S.prs.ne (by omega) e.symm)).trans ?_
    exact (heap_alloc_old _ _ l1).trans S.out
  have h2 : w10.heap[X]? = some (.cells #[.int .i64 kind, .int .i64 0, .string n, pv, .string ⟨#[]⟩, .int .i64 0] 37) := by
    refine (hg.block _ (by omega) (fun e => S.prs.ne (Nat.lt_succ_self _) e.symm)).trans ?_
    exact (heap_alloc_old _ _ l2).trans S.row
  have h3 : Below w.heap.size w w10 := (S.low.alloc (by omega) o1).grown hg (by omega) (fun k e => by have := S.prs.ge e; omega)
  obtain ⟨r, m⟩ := setCell_row (k := 3) v' h2
  have l3 := (Array.getElem?_eq_some_iff.1 h1).1
  exact ⟨h2, (m.block _ l3 (fun e => by injection e with e; omega)).trans h1, h3.grown m h3.size (fun k e => by injection e with e; omega), r, hx, World.ownsRow.kept p m (.inr (p.ne (Nat.lt_succ_self _)))⟩
theorem none_before {ps : List (ByteArray × ByteArray)} {a : ByteArray} {i : Nat} (hi : ps.length ≤ i) (h : ∀ j x, j < i → ps[j]? = some x → x.1 ≠ a) : ps.any (fun q => decide (q.1 = a)) = false := by
  rw [List.any_eq_false]
  intro x hx
  obtain ⟨j, hj, rfl⟩ := List.getElem_of_mem hx
  rw [decide_eq_true_eq]
  exact h j _ (by omega) (List.getElem?_eq_getElem hj)
theorem some_here {ps : List (ByteArray × ByteArray)} {a : ByteArray} {i : Nat} {x : ByteArray × ByteArray} (h : ps[i]? = some x) (hx : x.1 = a) : ps.any (fun q => decide (q.1 = a)) = true := by
  rw [List.any_eq_true]
  exact ⟨x, List.mem_of_getElem? h, decide_eq_true hx⟩
/-- The token made is handed out. -/
theorem TSt.done {w W W' : World} {X i : Nat} {kind : Nat} {n : ByteArray} {pv : Value} {ps : List (ByteArray × ByteArray)} {R : Except Nat (Tok × Nat)} (S : TSt w W X kind n pv ps) (hr : R = .ok (⟨kind, n, ps, ⟨#[]⟩, 0⟩, i)) (m : W.grownBy W' (some w.heap.size)) :
    RtPost w R (.returned (.tuple #[tokV kind 0 n pv ⟨#[]⟩ 0, .int .i64 (i : Int), .int .i64 0])) W' := by
  subst hr
  have := S.xlt
  exact ⟨⟨pv, rfl, (S.prs.kept m (S.prs.ne (by omega))).less (by omega)⟩, S.rst.laid m⟩
set_option maxRecDepth 100000 in
set_option maxHeartbeats 1000000 in
theorem rtag_err (t : ByteArray) (k : Nat) (w : World) (ht : t.size ≤ 4000000) (hk : k ≤ t.size) (e0 : Nat) (h0 : e0 ≠ 0) (hq : qualF t k = .error e0) :
    Calls Tryz.prog 33 #[.string t, .int .i64 (k : Int)] w fun e w' => e = .returned (.tuple #[tokV 0 0 ⟨#[]⟩ (.slice none 0 0) ⟨#[]⟩ 0, .int .i64 0, .int .i64 (e0 : Int)]) ∧ Below w.heap.size w w' := by
  have WR := Lib.hid (fun W => (refWritten_any t k W ht hk).mono fun _ _ z => wr_err hq z)
  have b0 : ((e0 : Int) == 0) = false := by rw [beq_eq_false_iff_ne]; omega
  have b1 : ((e0 : Int) != 0) = true := by rw [bne_iff_ne]; omega
  have b2 : ¬ (e0 : Int) = 0 := by omega
  clear hq ht hk h0
  go_enter Tryz.func33, Tryz.ntmps33
  go_wp2_with (fail)
  obtain ⟨W1, hW1⟩ : ∃ W, w.alloc TOKR = W := ⟨_, rfl⟩
  rw [hW1]
  have S1 := Lib.hid (RSt.first hW1)
  clear hW1
  refine (WR.out _).mono ?_
  rintro e w2 ⟨rfl, hb⟩
  have S2 := Lib.hid (S1.out.grew hb)
  clear hb
  obtain ⟨⟨c0, c1, c2, c3, c4, c5⟩, ⟨f0, f1, f2, f3, f4, f5⟩⟩ := six_cells S2.out.out
  go_wp2_with (fail)
  change bodyPost _ _ _ _ _ (setTok w2 w.heap.size 0 0 ⟨#[]⟩ (.slice none 0 0) ⟨#[]⟩ 0)
  obtain ⟨w9, hw9⟩ : ∃ W, setTok w2 w.heap.size 0 0 ⟨#[]⟩ (.slice none 0 0) ⟨#[]⟩ 0 = W := ⟨_, rfl⟩
  obtain ⟨r9, m9⟩ := setTok_row 0 0 ⟨#[]⟩ (.slice none 0 0) ⟨#[]⟩ 0 S2.out.out
  rw [hw9] at r9 m9 ⊢
  obtain ⟨⟨d0, d1, d2, d3, d4, d5⟩, _⟩ := six_cells r9
  refine bodyPost_ret (v := .tuple #[tokV 0 0 ⟨#[]⟩ (.slice none 0 0) ⟨#[]⟩ 0, .int .i64 0, .int .i64 (e0 : Int)]) ?_ rfl ?_
  · simp [results, Tryz.results33, go_sem, d0, d1, d2, d3, d4, d5]
  · exact ⟨rfl, S2.out.laid m9⟩
set_option maxRecDepth 100000 in
set_option maxHeartbeats 16000000 in
theorem rtag_go (t : ByteArray) (k : Nat) (w : World) (ht : t.size ≤ 4000000) (hk : k ≤ t.size) (n : ByteArray) (i0 : Nat) (hq : qualF t k = .ok (n, i0)) (R : Except Nat (Tok × Nat)) (hR : tagGo t n (t.size + 1) i0 [] = R) :
    Calls Tryz.prog 33 #[.string t, .int .i64 (k : Int)] w (RtPost w R) := by
  have WR := Lib.hid (fun W => (refWritten_any t k W ht hk).mono fun _ _ z => wr_ok hq z)
  have HI := Lib.hid (show i0 ≤ t.size from (name_ok (qual_ok hq).1).2.1)
  have HR := Lib.hid hR
  have HT := Lib.hid ht
  clear hq ht hk hR
  go_enter Tryz.func33, Tryz.ntmps33
  go_wp2_with (fail)
  obtain ⟨W1, hW1⟩ : ∃ W, w.alloc TOKR = W := ⟨_, rfl⟩
  rw [hW1]
  have S1 := Lib.hid (RSt.first hW1)
  clear hW1
  refine (WR.out _).mono ?_
  rintro e w2 ⟨rfl, hb⟩
  have S2 := Lib.hid (S1.out.grew hb)
  clear hb
  obtain ⟨X, hX⟩ : ∃ X, w2.heap.size = X := ⟨_, rfl⟩
  have HX := Lib.hid hX
  obtain ⟨W3, hW3⟩ : ∃ W, w2.alloc (.cells #[.int .i64 2, .int .i64 0, .string n, .slice none 0 0, .string ⟨#[]⟩, .int .i64 0] 37) = W := ⟨_, rfl⟩
  have S3 := Lib.hid (TSt.first S2.out hX hW3)
  have S4 := Lib.hid (S3.out.laid X 2 n)
  obtain ⟨⟨c0, c1, c2, c3, c4, c5⟩, ⟨f0, f1, f2, f3, f4, f5⟩⟩ := six_cells S3.out.row
  go_wp2_with (fail)
  clear c0 c1 c2 c3 c4 c5 f0 f1 f2 f3 f4 f5
  go_loopw [8] (fun v wr => ∃ (j f : Nat) (pv : Value) (ps : List (ByteArray × ByteArray)), v = .int .i64 (j : Int) ∧ j ≤ t.size ∧ t.size < f + j ∧ ps.length ≤ j ∧ Hid (TSt w wr X 2 n pv ps ∧ tagGo t n f j ps = R)) (fun v _ => t.size - (intOf v).toNat)
  case atStart => exact ⟨i0, t.size + 1, _, [], rfl, HI.out, by omega, Nat.zero_le _, Lib.hid ⟨S4.out, HR.out⟩⟩
  case round =>
    obtain ⟨j, f, pv, ps, rfl, hj, hf, hps, HD⟩ := hrel
    obtain ⟨f, rfl⟩ : ∃ f', f = f' + 1 := ⟨f - 1, by omega⟩
    have ht := HT.out
    have WH := Lib.hid (fun W => refWhite_any t j W (by omega) (by omega))
    have hwle := white_le hj
    obtain ⟨k1, hk1⟩ : ∃ k1, whiteTo t j = k1 := ⟨_, rfl⟩
    have HK1 := Lib.hid hk1
    rw [hk1] at WH hwle
    have kb : (k1 : Int) ≤ 4000000 := by omega
    obtain ⟨q0, q1, hpv⟩ := HD.out.1.prs.form
    subst hpv
    have SA := Lib.hid (fun W => refStands_at t ⟨#[62]⟩ (k1 : Int) k1 [62] W rfl rfl (by omega) (by omega) (by decide) (by decide))
    have SB := Lib.hid (fun W => refStands_at t ⟨#[47, 62]⟩ (k1 : Int) k1 [47, 62] W rfl rfl (by omega) (by omega) (by decide) (by decide))
    obtain ⟨⟨c0, c1, c2, c3, c4, c5⟩, ⟨f0, f1, f2, f3, f4, f5⟩⟩ := six_cells HD.out.1.out
    obtain ⟨⟨d0, d1, d2, d3, d4, d5⟩, ⟨g0, g1, g2, g3, g4, g5⟩⟩ := six_cells HD.out.1.row
    cases sa : seesB t k1 [62]
    rotate_left
    · rw [sa] at SA
      have hr : R = .ok (⟨2, n, ps, ⟨#[]⟩, 0⟩, k1 + 1) := by rw [← HD.out.2, tagGo, HK1.out, sa, if_pos rfl]
      clear hk1 sa
      go_wp2_with (fail)
      refine (WH.out _).mono ?_
      rintro e w' ⟨rfl, rfl⟩
      go_wp2_with (fail)
      refine (SA.out _).mono ?_
      rintro e w' ⟨rfl, rfl⟩
      go_wp2_with (fail)
      change bodyPost _ _ _ _ _ (setTok wr w.heap.size 2 0 n (.slice q0 ps.length q1) ⟨#[]⟩ 0)
      obtain ⟨w9, hw9⟩ : ∃ W, setTok wr w.heap.size 2 0 n (.slice q0 ps.length q1) ⟨#[]⟩ 0 = W := ⟨_, rfl⟩
      obtain ⟨r9, m9⟩ := setTok_row 2 0 n (.slice q0 ps.length q1) ⟨#[]⟩ 0 (HD.out.1).out
      rw [hw9] at r9 m9 ⊢
      obtain ⟨⟨y0, y1, y2, y3, y4, y5⟩, _⟩ := six_cells r9
      refine bodyPost_ret (v := .tuple #[tokV 2 0 n (.slice q0 ps.length q1) ⟨#[]⟩ 0, .int .i64 ((k1 : Int) + 1), .int .i64 0]) ?_ rfl ?_
      · simp [results, Tryz.results33, go_sem, y0, y1, y2, y3, y4, y5]
      · exact HD.out.1.done hr m9
    · rw [sa] at SA
      cases sb : seesB t k1 [47, 62]
      rotate_left
      · rw [sb] at SB
        have hr : R = .ok (⟨4, n, ps, ⟨#[]⟩, 0⟩, k1 + 2) := by rw [← HD.out.2, tagGo, HK1.out, sa, sb, if_neg (by decide), if_pos rfl]
        have S4 := Lib.hid HD.out.1.four
        clear hk1 sa sb c0 c1 c2 c3 c4 c5 f0 f1 f2 f3 f4 f5
        obtain ⟨W4, hW4⟩ : ∃ W, wr.setCell ⟨X, 0, none⟩ (.int .i64 4) = W := ⟨_, rfl⟩
        rw [hW4] at S4
        obtain ⟨⟨c0, c1, c2, c3, c4, c5⟩, ⟨f0, f1, f2, f3, f4, f5⟩⟩ := six_cells S4.out.out
        obtain ⟨⟨e0, e1, e2, e3, e4, e5⟩, _⟩ := six_cells S4.out.row
        go_wp2_with (fail)
        refine (WH.out _).mono ?_
        rintro e w' ⟨rfl, rfl⟩
        go_wp2_with (fail)
        refine (SA.out _).mono ?_
        rintro e w' ⟨rfl, rfl⟩
        go_wp2_with (fail)
        refine (SB.out _).mono ?_
        rintro e w' ⟨rfl, rfl⟩
        go_wp2_with (fail)
        change bodyPost _ _ _ _ _ (setTok W4 w.heap.size 4 0 n (.slice q0 ps.length q1) ⟨#[]⟩ 0)
        obtain ⟨w9, hw9⟩ : ∃ W, setTok W4 w.heap.size 4 0 n (.slice q0 ps.length q1) ⟨#[]⟩ 0 = W := ⟨_, rfl⟩
        obtain ⟨r9, m9⟩ := setTok_row 4 0 n (.slice q0 ps.length q1) ⟨#[]⟩ 0 (S4.out).out
        rw [hw9] at r9 m9 ⊢
        obtain ⟨⟨y0, y1, y2, y3, y4, y5⟩, _⟩ := six_cells r9
        refine bodyPost_ret (v := .tuple #[tokV 4 0 n (.slice q0 ps.length q1) ⟨#[]⟩ 0, .int .i64 ((k1 : Int) + 2), .int .i64 0]) ?_ rfl ?_
        · simp [results, Tryz.results33, go_sem, y0, y1, y2, y3, y4, y5]
        · exact S4.out.done hr m9
      · rw [sb] at SB
        by_cases hkj : k1 = j
        · have hr : R = .error 23 := by rw [← HD.out.2, tagGo, HK1.out, sa, sb, if_neg (by decide), if_neg (by decide), if_pos hkj]
          subst hkj
          clear hk1 sa sb
          go_wp2_with (fail)
          refine (WH.out _).mono ?_
          rintro e w' ⟨rfl, rfl⟩
          go_wp2_with (fail)
          refine (SA.out _).mono ?_
          rintro e w' ⟨rfl, rfl⟩
          go_wp2_with (fail)
          refine (SB.out _).mono ?_
          rintro e w' ⟨rfl, rfl⟩
          go_wp2_with (fail)
          change bodyPost _ _ _ _ _ (setTok wr w.heap.size 0 0 ⟨#[]⟩ (.slice none 0 0) ⟨#[]⟩ 0)
          obtain ⟨w9, hw9⟩ : ∃ W, setTok wr w.heap.size 0 0 ⟨#[]⟩ (.slice none 0 0) ⟨#[]⟩ 0 = W := ⟨_, rfl⟩
          obtain ⟨r9, m9⟩ := setTok_row 0 0 ⟨#[]⟩ (.slice none 0 0) ⟨#[]⟩ 0 (HD.out.1).out
          rw [hw9] at r9 m9 ⊢
          obtain ⟨⟨y0, y1, y2, y3, y4, y5⟩, _⟩ := six_cells r9
          refine bodyPost_ret (v := .tuple #[tokV 0 0 ⟨#[]⟩ (.slice none 0 0) ⟨#[]⟩ 0, .int .i64 0, .int .i64 23]) ?_ rfl ?_
          · simp [results, Tryz.results33, go_sem, y0, y1, y2, y3, y4, y5]
          · exact rt_err hr ⟨rfl, HD.out.1.rst.laid m9⟩
        · have j1 : ((k1 : Int) == (j : Int)) = false := by rw [beq_eq_false_iff_ne]; omega
          have j2 : ¬ (k1 : Int) = (j : Int) := by omega
          have hjk : j ≤ k1 := by rw [← HK1.out]; unfold whiteTo; omega
          cases hq2 : qualF t k1 with
          | error e0 =>
            have he0 : e0 ≠ 0 := by rcases qual_err hq2 with q | q <;> omega
            have hr : R = .error e0 := by rw [← HD.out.2, tagGo, HK1.out, sa, sb, if_neg (by decide), if_neg (by decide), if_neg hkj]; simp [pairF, hq2]
            have W2 := Lib.hid (fun W => (refWritten_any t k1 W ht hwle).mono fun _ _ z => wr_err hq2 z)
            have b0 : ((e0 : Int) == 0) = false := by rw [beq_eq_false_iff_ne]; omega
            have b1 : ((e0 : Int) != 0) = true := by rw [bne_iff_ne]; omega
            have b2 : ¬ (e0 : Int) = 0 := by omega
            clear hk1 sa sb hq2 he0 c0 c1 c2 c3 c4 c5 f0 f1 f2 f3 f4 f5 d0 d1 d2 d3 d4 d5 g0 g1 g2 g3 g4 g5
            go_wp2_with (fail)
            refine (WH.out _).mono ?_
            rintro e w' ⟨rfl, rfl⟩
            go_wp2_with (fail)
            refine (SA.out _).mono ?_
            rintro e w' ⟨rfl, rfl⟩
            go_wp2_with (fail)
            refine (SB.out _).mono ?_
            rintro e w' ⟨rfl, rfl⟩
            go_wp2_with (fail)
            refine (W2.out _).mono ?_
            rintro e w5 ⟨rfl, hb⟩
            have S5 := Lib.hid (HD.out.1.grew hb)
            clear hb
            obtain ⟨⟨c0, c1, c2, c3, c4, c5⟩, ⟨f0, f1, f2, f3, f4, f5⟩⟩ := six_cells S5.out.out
            go_wp2_with (fail)
            change bodyPost _ _ _ _ _ (setTok w5 w.heap.size 0 0 ⟨#[]⟩ (.slice none 0 0) ⟨#[]⟩ 0)
            obtain ⟨w9, hw9⟩ : ∃ W, setTok w5 w.heap.size 0 0 ⟨#[]⟩ (.slice none 0 0) ⟨#[]⟩ 0 = W := ⟨_, rfl⟩
            obtain ⟨r9, m9⟩ := setTok_row 0 0 ⟨#[]⟩ (.slice none 0 0) ⟨#[]⟩ 0 (S5.out).out
            rw [hw9] at r9 m9 ⊢
            obtain ⟨⟨y0, y1, y2, y3, y4, y5⟩, _⟩ := six_cells r9
            refine bodyPost_ret (v := .tuple #[tokV 0 0 ⟨#[]⟩ (.slice none 0 0) ⟨#[]⟩ 0, .int .i64 0, .int .i64 (e0 : Int)]) ?_ rfl ?_
            · simp [results, Tryz.results33, go_sem, y0, y1, y2, y3, y4, y5]
            · exact rt_err hr ⟨rfl, S5.out.rst.laid m9⟩
          | ok r =>
            obtain ⟨a, i2⟩ := r
            obtain ⟨n1, n2, -⟩ := name_ok (qual_ok hq2).1
            have W2 := Lib.hid (fun W => (refWritten_any t k1 W ht hwle).mono fun _ _ z => wr_ok hq2 z)
            have V := Lib.hid (fun W => refValue_any t i2 W ht n2)
            rcases pair_cases n2 hq2 with ⟨hz, hp⟩ | ⟨raw, m, hz, hraw, him, hm, hp⟩
            · rw [hz] at V
              have hr : R = .error 23 := by rw [← HD.out.2, tagGo, HK1.out, sa, sb, if_neg (by decide), if_neg (by decide), if_neg hkj, hp]
              clear hk1 sa sb hq2 hz hp n1 n2 c0 c1 c2 c3 c4 c5 f0 f1 f2 f3 f4 f5 d0 d1 d2 d3 d4 d5 g0 g1 g2 g3 g4 g5
              go_wp2_with (fail)
              refine (WH.out _).mono ?_
              rintro e w' ⟨rfl, rfl⟩
              go_wp2_with (fail)
              refine (SA.out _).mono ?_
              rintro e w' ⟨rfl, rfl⟩
              go_wp2_with (fail)
              refine (SB.out _).mono ?_
              rintro e w' ⟨rfl, rfl⟩
              go_wp2_with (fail)
              refine (W2.out _).mono ?_
              rintro e w5 ⟨rfl, hb⟩
              have S5 := Lib.hid (HD.out.1.grew hb)
              clear hb
              obtain ⟨⟨c0, c1, c2, c3, c4, c5⟩, ⟨f0, f1, f2, f3, f4, f5⟩⟩ := six_cells S5.out.out
              go_wp2_with (fail)
              refine (V.out _).mono ?_
              rintro e w' ⟨rfl, rfl⟩
              go_wp2_with (fail)
              change bodyPost _ _ _ _ _ (setTok w5 w.heap.size 0 0 ⟨#[]⟩ (.slice none 0 0) ⟨#[]⟩ 0)
              obtain ⟨w9, hw9⟩ : ∃ W, setTok w5 w.heap.size 0 0 ⟨#[]⟩ (.slice none 0 0) ⟨#[]⟩ 0 = W := ⟨_, rfl⟩
              obtain ⟨r9, m9⟩ := setTok_row 0 0 ⟨#[]⟩ (.slice none 0 0) ⟨#[]⟩ 0 (S5.out).out
              rw [hw9] at r9 m9 ⊢
              obtain ⟨⟨y0, y1, y2, y3, y4, y5⟩, _⟩ := six_cells r9
              refine bodyPost_ret (v := .tuple #[tokV 0 0 ⟨#[]⟩ (.slice none 0 0) ⟨#[]⟩ 0, .int .i64 0, .int .i64 23]) ?_ rfl ?_
              · simp [results, Tryz.results33, go_sem, y0, y1, y2, y3, y4, y5]
              · exact rt_err hr ⟨rfl, S5.out.rst.laid m9⟩
            · rw [hz] at V
              have m5 : ¬ (m : Int) < 0 := by omega
              obtain ⟨u1, hu1⟩ : ∃ u, (⟨(readF (stepV raw) raw.size).1.toArray⟩ : ByteArray) = u := ⟨_, rfl⟩
              obtain ⟨u2, hu2⟩ : ∃ u, (readF (stepV raw) raw.size).2.1 = u := ⟨_, rfl⟩
              obtain ⟨u3, hu3⟩ : ∃ u, (readF (stepV raw) raw.size).2.2 = u := ⟨_, rfl⟩
              have RD := Lib.hid (fun (W : World) (b off cap : Nat) h1 h2 => refread_value raw b off cap W (by omega) h1 h2)
              have hnn := readV_nn raw
              rw [hu1, hu2, hu3] at RD
              rw [hu1, hu3] at hp
              rw [hu3] at hnn
              clear hu1 hu2 hu3
              by_cases h3 : u3 = 0
              rotate_left
              · have hr : R = .error u3.toNat := by rw [← HD.out.2, tagGo, HK1.out, sa, sb, if_neg (by decide), if_neg (by decide), if_neg hkj, hp, if_neg h3]
                have hz3 : ((u3.toNat : Nat) : Int) = u3 := Int.toNat_of_nonneg hnn
                have HZ3 := Lib.hid hz3
                have b0 : (u3 == 0) = false := by rw [beq_eq_false_iff_ne]; exact h3
                have b1 : (u3 != 0) = true := by rw [bne_iff_ne]; exact h3
                clear hk1 sa sb hq2 hz hp n1 n2 hz3 hnn hraw him hm c0 c1 c2 c3 c4 c5 f0 f1 f2 f3 f4 f5 d0 d1 d2 d3 d4 d5 g0 g1 g2 g3 g4 g5
                go_wp2_with (fail)
                refine (WH.out _).mono ?_
                rintro e w' ⟨rfl, rfl⟩
                go_wp2_with (fail)
                refine (SA.out _).mono ?_
                rintro e w' ⟨rfl, rfl⟩
                go_wp2_with (fail)
                refine (SB.out _).mono ?_
                rintro e w' ⟨rfl, rfl⟩
                go_wp2_with (fail)
                refine (W2.out _).mono ?_
                rintro e w5 ⟨rfl, hb⟩
                have S5 := Lib.hid (HD.out.1.grew hb)
                clear hb
                go_wp2_with (fail)
                refine (V.out _).mono ?_
                rintro e w' ⟨rfl, rfl⟩
                obtain ⟨cap, W6, hcv, hcap, hb6, _, hp6⟩ := bytes_of w5 raw
                have R6 := Lib.hid (RD.out W6 w5.heap.size 0 cap hcap hp6)
                have HB6 := Lib.hid hb6
                clear hcap hb6 hp6
                go_wp2_with (fail)
                refine R6.out.mono ?_
                rintro e w7 ⟨rfl, hb⟩
                have S7 := Lib.hid (S5.out.grew (below_cat HB6.out hb))
                clear hb hcv
                obtain ⟨⟨c0, c1, c2, c3, c4, c5⟩, ⟨f0, f1, f2, f3, f4, f5⟩⟩ := six_cells S7.out.out
                go_wp2_with (fail)
                change bodyPost _ _ _ _ _ (setTok w7 w.heap.size 0 0 ⟨#[]⟩ (.slice none 0 0) ⟨#[]⟩ 0)
                obtain ⟨w9, hw9⟩ : ∃ W, setTok w7 w.heap.size 0 0 ⟨#[]⟩ (.slice none 0 0) ⟨#[]⟩ 0 = W := ⟨_, rfl⟩
                obtain ⟨r9, m9⟩ := setTok_row 0 0 ⟨#[]⟩ (.slice none 0 0) ⟨#[]⟩ 0 (S7.out).out
                rw [hw9] at r9 m9 ⊢
                obtain ⟨⟨y0, y1, y2, y3, y4, y5⟩, _⟩ := six_cells r9
                refine bodyPost_ret (v := .tuple #[tokV 0 0 ⟨#[]⟩ (.slice none 0 0) ⟨#[]⟩ 0, .int .i64 0, .int .i64 u3]) ?_ rfl ?_
                · simp [results, Tryz.results33, go_sem, y0, y1, y2, y3, y4, y5]
                · exact rt_err hr (by rw [HZ3.out]; exact ⟨rfl, S7.out.rst.laid m9⟩)
              · subst h3
                have hr : R = if ps.any (fun q => decide (q.1 = a)) then .error 27 else tagGo t n f m (ps ++ [(a, u1)]) := by rw [← HD.out.2, tagGo, HK1.out, sa, sb, if_neg (by decide), if_neg (by decide), if_neg hkj, hp, if_pos rfl]
                have HR2 := Lib.hid hr
                have HM := Lib.hid (And.intro him hm)
                have HN := Lib.hid (And.intro n1 (And.intro n2 hjk))
                clear hk1 sa sb hq2 hz hp n1 n2 hnn hraw him hm hr hjk c0 c1 c2 c3 c4 c5 f0 f1 f2 f3 f4 f5 d0 d1 d2 d3 d4 d5 g0 g1 g2 g3 g4 g5
                go_wp2_with (fail)
                refine (WH.out _).mono ?_
                rintro e w' ⟨rfl, rfl⟩
                go_wp2_with (fail)
                refine (SA.out _).mono ?_
                rintro e w' ⟨rfl, rfl⟩
                go_wp2_with (fail)
                refine (SB.out _).mono ?_
                rintro e w' ⟨rfl, rfl⟩
                go_wp2_with (fail)
                refine (W2.out _).mono ?_
                rintro e w5 ⟨rfl, hb⟩
                have S5 := Lib.hid (HD.out.1.grew hb)
                clear hb
                go_wp2_with (fail)
                refine (V.out _).mono ?_
                rintro e w' ⟨rfl, rfl⟩
                obtain ⟨cap, W6, hcv, hcap, hb6, _, hp6⟩ := bytes_of w5 raw
                have R6 := Lib.hid (RD.out W6 w5.heap.size 0 cap hcap hp6)
                have HB6 := Lib.hid hb6
                clear hcap hb6 hp6
                go_wp2_with (fail)
                refine R6.out.mono ?_
                rintro e w7 ⟨rfl, hb⟩
                have S7 := Lib.hid (S5.out.grew (below_cat HB6.out hb))
                clear hb hcv
                obtain ⟨⟨d0, d1, d2, d3, d4, d5⟩, _⟩ := six_cells S7.out.row
                go_wp2_with (fail)
                clear d0 d1 d2 d3 d4 d5
                go_loopw [88] (fun v wr => ∃ i : Nat, v = .int .i64 (i : Int) ∧ i ≤ ps.length ∧ Hid (TSt w wr X 2 n (.slice q0 ps.length q1) ps ∧ ∀ j x, j < i → ps[j]? = some x → x.1 ≠ a)) (fun v _ => ps.length - (intOf v).toNat)
                case atStart => exact ⟨0, rfl, Nat.zero_le _, Lib.hid ⟨S7.out, fun j x hj => absurd hj (Nat.not_lt_zero _)⟩⟩
                case round =>
                  obtain ⟨i, rfl, hi, HE⟩ := hrel
                  by_cases hlt : i < ps.length
                  · obtain ⟨x, hx⟩ : ∃ x, ps[i]? = some x := ⟨_, List.getElem?_eq_getElem hlt⟩
                    obtain ⟨g, c', hq, hg, k0, k2⟩ := HE.out.1.prs.cells.2 i x hx
                    obtain ⟨rfl, rfl⟩ : q0 = some ⟨g, 0, none⟩ ∧ q1 = c' := by
                      injection hq with h1 _ h3
                      exact ⟨h1, h3⟩
                    have HX2 := Lib.hid hx
                    have hlt2 : (i : Int) < (ps.length : Int) := by omega
                    obtain ⟨xn, xv⟩ := x
                    obtain ⟨⟨c0, c1, c2, c3, c4, c5⟩, ⟨f0, f1, f2, f3, f4, f5⟩⟩ := six_cells HE.out.1.out
                    have hlw := HE.out.1.rst.le
                    clear hx hq
                    by_cases hxa : xn = a
                    · have b1 : (xn.toList == a.toList) = true := by rw [hxa]; simp
                      have hr27 : R = .error 27 := by rw [HR2.out, if_pos (some_here HX2.out hxa)]
                      have HR27 := Lib.hid hr27
                      clear hr27
                      clear hxa
                      go_wp2_with (fail)
                      change bodyPost _ _ _ _ _ ((setTok wr w.heap.size 0 0 ⟨#[]⟩ (.slice none 0 0) ⟨#[]⟩ 0).alloc (.cells #[.string xn, .string xv] 52))
                      obtain ⟨w9, hw9⟩ : ∃ W, setTok wr w.heap.size 0 0 ⟨#[]⟩ (.slice none 0 0) ⟨#[]⟩ 0 = W := ⟨_, rfl⟩
                      obtain ⟨r9, m9⟩ := setTok_row 0 0 ⟨#[]⟩ (.slice none 0 0) ⟨#[]⟩ 0 HE.out.1.out
                      rw [hw9] at r9 m9 ⊢
                      have hl9 := (Array.getElem?_eq_some_iff.1 r9).1
                      have r10 := (heap_alloc_old w9 (.cells #[.string xn, .string xv] 52) hl9).trans r9
                      obtain ⟨⟨y0, y1, y2, y3, y4, y5⟩, _⟩ := six_cells r10
                      refine bodyPost_ret (v := .tuple #[tokV 0 0 ⟨#[]⟩ (.slice none 0 0) ⟨#[]⟩ 0, .int .i64 0, .int .i64 27]) ?_ rfl ?_
                      · simp [results, Tryz.results33, go_sem, y0, y1, y2, y3, y4, y5]
                      · exact rt_err HR27.out ⟨rfl, (HE.out.1.rst.laid m9).alloc (by omega) _⟩
                    · have b1 : (xn.toList == a.toList) = false := by rw [same_list]; exact decide_eq_false hxa
                      have S8 := Lib.hid (HE.out.1.grew ((Below.refl _ _).alloc (Nat.le_refl _) (.cells #[.string xn, .string xv] 52)))
                      have HXA := Lib.hid hxa
                      have hil : i < ps.length := hlt
                      clear hxa
                      go_wp2_with (fail)
                      go_roundw
                      case rel =>
                        refine ⟨i + 1, by go_num, by omega, Lib.hid ⟨S8.out, fun j x hj hx => ?_⟩⟩
                        by_cases hji : j = i
                        · subst hji
                          have e := HX2.out.symm.trans hx
                          injection e with e
                          subst e
                          exact HXA.out
                        · exact HE.out.2 j x (by omega) hx
                      case measure => simp [intOf]; omega
                  · have hrg : tagGo t n f m (ps ++ [(a, u1)]) = R := by rw [HR2.out, none_before (by omega) HE.out.2, if_neg (by decide)]
                    have n2 := heap_alloc_new wr (.cells #[.string a, .string u1] 52)
                    have p2 : RPairsAt (wr.alloc (.cells #[.string a, .string u1] 52)) _ _ _ := World.ownsRow.alloc HE.out.1.prs _
                    have hxw : X < wr.heap.size := (Array.getElem?_eq_some_iff.1 HE.out.1.row).1
                    obtain ⟨v', w10, hrun, p10, hg10⟩ := append_rpair (p := (a, u1)) p2 n2 (by simp; omega) (by have := HT.out; omega)
                    obtain ⟨hrow, hnext⟩ := TSt.more _ HE.out.1 hg10 p10
                    obtain ⟨q3, c3, hv3⟩ := p10.form
                    rw [List.length_append] at hv3
                    subst hv3
                    have RUN := Lib.hid hrun
                    have HNX := Lib.hid (And.intro hnext hrg)
                    obtain ⟨⟨c0, c1, c2, c3', c4, c5⟩, ⟨f0, f1, f2, f3, f4, f5⟩⟩ := six_cells HE.out.1.row
                    obtain ⟨⟨d0, d1, d2, d3, d4, d5⟩, ⟨g0, g1, g2, g3, g4, g5⟩⟩ := six_cells hrow
                    have hn : ¬ (i : Int) < (ps.length : Int) := by omega
                    clear n2 p2 hrun p10 hg10 hrow hnext hrg
                    go_wp2_with (at_builtin; refine wpList_append_eq rfl (.tmp 99) (.tmp 103) 35 rfl _ _ _ _ rfl rfl RUN.out ?_)
                    go_roundw
                    case rel => exact ⟨m, f, _, ps ++ [(a, u1)], rfl, HM.out.2, by have := HM.out; have := HN.out; omega, by have := HM.out; have := HN.out; rw [List.length_append]; simp only [List.length_cons, List.length_nil]; omega, Lib.hid HNX.out⟩
                    case measure => have := HM.out; have := HN.out; simp [intOf]; omega
theorem refTag_any (t : ByteArray) (k : Nat) (w : World) (ht : t.size ≤ 4000000) (hk : k ≤ t.size) : Calls Tryz.prog 33 #[.string t, .int .i64 (k : Int)] w (RtPost w (tagF t k)) := by
  unfold tagF
  cases hq : qualF t k with
  | error e0 =>
    have he0 : e0 ≠ 0 := by rcases qual_err hq with q | q <;> omega
    exact (rtag_err t k w ht hk e0 he0 hq).mono fun e w' z => rt_err rfl z
  | ok r =>
    obtain ⟨n, i⟩ := r
    exact rtag_go t k w ht hk n i hq _ rfl
end Go.Proofs.YtidimpepfkdcmaaGreatDoor
