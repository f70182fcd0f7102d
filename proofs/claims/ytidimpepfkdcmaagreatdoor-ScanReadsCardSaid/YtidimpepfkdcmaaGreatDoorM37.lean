/- Proved here: what the document's declaration answers. -/
import Derived.Test.YtidimpepfkdcmaaGreatDoorM36
import Derived.Test.YtidimpepfkdcmaaGreatDoorM22
import Derived.Test.YtidimpepfkdcmaaGreatDoorM35
import Derived.BigGuardPart
namespace Go.Proofs.YtidimpepfkdcmaaGreatDoor
open Go.RowKit

theorem word_index0 (W : World) : (Instr.index 73 (.agg #[.string ⟨#[118, 101, 114, 115, 105, 111, 110]⟩, .string ⟨#[101, 110, 99, 111, 100, 105, 110, 103]⟩, .string ⟨#[115, 116, 97, 110, 100, 97, 108, 111, 110, 101]⟩]) (.int .i64 0)).run Tryz.prog W = .ok (.string ⟨#[118, 101, 114, 115, 105, 111, 110]⟩) W := by kernel_rfl
theorem word_index1 (W : World) : (Instr.index 73 (.agg #[.string ⟨#[118, 101, 114, 115, 105, 111, 110]⟩, .string ⟨#[101, 110, 99, 111, 100, 105, 110, 103]⟩, .string ⟨#[115, 116, 97, 110, 100, 97, 108, 111, 110, 101]⟩]) (.int .i64 1)).run Tryz.prog W = .ok (.string ⟨#[101, 110, 99, 111, 100, 105, 110, 103]⟩) W := by kernel_rfl
theorem word_index2 (W : World) : (Instr.index 73 (.agg #[.string ⟨#[118, 101, 114, 115, 105, 111, 110]⟩, .string ⟨#[101, 110, 99, 111, 100, 105, 110, 103]⟩, .string ⟨#[115, 116, 97, 110, 100, 97, 108, 111, 110, 101]⟩]) (.int .i64 2)).run Tryz.prog W = .ok (.string ⟨#[115, 116, 97, 110, 100, 97, 108, 111, 110, 101]⟩) W := by kernel_rfl
theorem word_index (k : Nat) (hk : k < 3) (W : World) : (Instr.index 73 (.agg #[.string ⟨#[118, 101, 114, 115, 105, 111, 110]⟩, .string ⟨#[101, 110, 99, 111, 100, 105, 110, 103]⟩, .string ⟨#[115, 116, 97, 110, 100, 97, 108, 111, 110, 101]⟩]) (.int .i64 (k : Int))).run Tryz.prog W = .ok (.string (wordK k)) W := by
  obtain rfl | rfl | rfl : k = 0 ∨ k = 1 ∨ k = 2 := by omega
  · exact word_index0 W
  · exact word_index1 W
  · exact word_index2 W
theorem allowed_any (k : Nat) (hk : k < 3) (s : ByteArray) (W : World) (hs : s.size ≤ 4194304) : Calls Tryz.prog 48 #[.int .i64 (k : Int), .string s] W fun e w' => e = .returned (.bool (rightK k s)) ∧ W = w' := by
  obtain rfl | rfl | rfl : k = 0 ∨ k = 1 ∨ k = 2 := by omega
  · exact allowed_version s W hs
  · exact allowed_encoding s W hs
  · exact allowed_alone s W
theorem refValue_at (t : ByteArray) (z : Int) (k : Nat) (w : World) (hz : z = (k : Int)) (ht : t.size ≤ 4000000) (hk : k ≤ t.size) :
    Calls Tryz.prog 47 #[.string t, .int .i64 z] w fun e w' => e = .returned (.tuple #[.string (valueZ t k).1, .int .i64 (valueZ t k).2]) ∧ w = w' := by
  subst hz
  exact refValue_any t k w ht hk
theorem TSt.firstk {w W W' : World} {X : Nat} {kind : Int} {n : ByteArray} (S : RSt w W) (hX : W.heap.size = X) (hW : W.alloc (.cells #[.int .i64 kind, .int .i64 0, .string n, .slice none 0 0, .string ⟨#[]⟩, .int .i64 0] 37) = W') : TSt w W' X kind n (.slice none 0 0) [] := by
  subst hW hX
  have hb : Below W.heap.size W (W.alloc (.cells #[.int .i64 kind, .int .i64 0, .string n, .slice none 0 0, .string ⟨#[]⟩, .int .i64 0] 37)) := (Below.refl _ _).alloc (Nat.le_refl _) _
  exact ⟨(S.grew hb).out, (S.grew hb).low, heap_alloc_new W _, S.le, RPairsAt.nil _ _⟩
theorem TSt.laid2 {w W : World} (X : Nat) (kind : Int) (n : ByteArray) (S : TSt w W X kind n (.slice none 0 0) []) : TSt w (W.setCell ⟨X, 2, none⟩ (.string n)) X kind n (.slice none 0 0) [] := by
  obtain ⟨r, m⟩ := setCell_row (k := 2) (.string n) S.row
  have hw := S.rst.le
  refine ⟨?_, S.low.grown m S.low.size (fun k e => by injection e with e; have := S.xlt; omega), r, S.xlt, RPairsAt.nil _ _⟩
  rw [m.block _ hw (fun e => by injection e with e; have := S.xlt; omega)]
  exact S.out
theorem TSt.laid1 {w W : World} (X : Nat) (kind : Int) (n : ByteArray) (S : TSt w W X kind n (.slice none 0 0) []) : TSt w (W.setCell ⟨X, 1, none⟩ (.int .i64 0)) X kind n (.slice none 0 0) [] := by
  obtain ⟨r, m⟩ := setCell_row (k := 1) (.int .i64 0) S.row
  have hw := S.rst.le
  refine ⟨?_, S.low.grown m S.low.size (fun k e => by injection e with e; have := S.xlt; omega), r, S.xlt, RPairsAt.nil _ _⟩
  rw [m.block _ hw (fun e => by injection e with e; have := S.xlt; omega)]
  exact S.out
set_option maxRecDepth 100000 in
set_option maxHeartbeats 16000000 in
theorem rdecl_go (t : ByteArray) (w : World) (ht : t.size ≤ 4000000) (h5 : 5 ≤ t.size) (R : Except Nat (Tok × Nat)) (hR : declS t 0 5 [] true = R) :
    Calls Tryz.prog 29 #[.string t] w (RtPost w R) := by
  have HR := Lib.hid hR
  have HT := Lib.hid (And.intro ht h5)
  clear hR ht h5
  go_enter Tryz.func29, Tryz.ntmps29
  go_upto_region 1 with fail
  obtain ⟨W1, hW1⟩ : ∃ W, w.alloc TOKR = W := ⟨_, rfl⟩
  rw [hW1]
  have S1 := Lib.hid (RSt.first hW1)
  clear hW1
  obtain ⟨X, hX⟩ : ∃ X, W1.heap.size = X := ⟨_, rfl⟩
  have HX := Lib.hid hX
  obtain ⟨W3, hW3⟩ : ∃ W, W1.alloc (.cells #[.int .i64 1, .int .i64 0, .string ⟨#[]⟩, .slice none 0 0, .string ⟨#[]⟩, .int .i64 0] 37) = W := ⟨_, rfl⟩
  have S3 := Lib.hid (TSt.firstk S1.out hX hW3)
  have S4 := Lib.hid (((S3.out.laid1 X 1 ⟨#[]⟩).laid2 X 1 ⟨#[]⟩).laid X 1 ⟨#[]⟩)
  obtain ⟨⟨c0, c1, c2, c3, c4, c5⟩, ⟨f0, f1, f2, f3, f4, f5⟩⟩ := six_cells S3.out.row
  go_wp2_with (fail)
  clear c0 c1 c2 c3 c4 c5 f0 f1 f2 f3 f4 f5
  go_loopw [6, 7, 8] (fun v6 v7 v8 wr => ∃ (kk j : Nat) (q : Bool) (pv : Value) (ps : List (ByteArray × ByteArray)), v8 = .int .i64 (kk : Int) ∧ kk ≤ 3 ∧ v6 = .int .i64 (j : Int) ∧ j ≤ t.size ∧ v7 = .bool (!q) ∧ ps.length ≤ kk ∧ Hid (TSt w wr X 1 ⟨#[]⟩ pv ps ∧ declS t kk j ps q = R ∧ (kk ≤ 1 → q = true))) (fun _ _ v8 _ => 3 - (intOf v8).toNat)
  case atStart => exact ⟨0, 5, true, _, [], rfl, by omega, rfl, HT.out.2, rfl, Nat.zero_le _, Lib.hid ⟨S4.out, HR.out, fun _ => rfl⟩⟩
  case round =>
    obtain ⟨kk, j, q, pv, ps, rfl, hk3, rfl, hj, rfl, hps, HD⟩ := hrel
    have ht := HT.out.1
    have WH := Lib.hid (fun W => refWhite_any t j W (by omega) (by omega))
    have hwle := white_le hj
    have hwge := white_ge t j
    obtain ⟨k1, hk1⟩ : ∃ k1, whiteTo t j = k1 := ⟨_, rfl⟩
    have HK1 := Lib.hid hk1
    rw [hk1] at WH hwle hwge
    have kb : (k1 : Int) ≤ 4000000 := by omega
    have jb : (j : Int) ≤ 4000000 := by omega
    obtain ⟨q0, q1, hpv⟩ := HD.out.1.prs.form
    subst hpv
    by_cases hlt : kk < 3
    · have IDX := word_index kk hlt
      have hi3 : (kk : Int) < 3 := by omega
      have hwz := word_size kk
      obtain ⟨wd, hwd⟩ : ∃ wd, wordK kk = wd := ⟨_, rfl⟩
      have HWD := Lib.hid hwd
      rw [hwd] at IDX hwz
      have SA := Lib.hid (fun W => refStands_any t wd k1 W (by omega) (by omega) (by omega) hwz.1)
      by_cases hjk : j < k1
      · have g1 : (j : Int) < (k1 : Int) := by omega
        have g2 : decide ((j : Int) < (k1 : Int)) = true := decide_eq_true g1
        cases sa : seesB t k1 wd.data.toList
        · have hno : hereB t kk j = false := by unfold hereB; rw [HK1.out, HWD.out, sa, Bool.and_false]
          rw [sa] at SA
          clear hk1 hwd
          by_cases h0 : kk = 0
          · have hr : R = .error 23 := by have e := HD.out.2.1; subst h0; rw [← e]; exact decl_skip0 _ _ hno
            have z1 : ((kk : Int) == 0) = true := by rw [beq_iff_eq]; omega
            clear hno sa h0
            obtain ⟨⟨c0, c1, c2, c3, c4, c5⟩, ⟨f0, f1, f2, f3, f4, f5⟩⟩ := six_cells HD.out.1.out
            go_wp2_with (fail)
            refine (WH.out _).mono ?_
            rintro e w' ⟨rfl, rfl⟩
            go_wp2_with (fail)
            refine (SA.out _).mono ?_
            rintro e w' ⟨rfl, rfl⟩
            go_wp2_with (fail)
            change bodyPost _ _ _ _ _ (setTok wr w.heap.size 0 0 ⟨#[]⟩ (.slice none 0 0) ⟨#[]⟩ 0)
            obtain ⟨w9, hw9⟩ : ∃ W, setTok wr w.heap.size 0 0 ⟨#[]⟩ (.slice none 0 0) ⟨#[]⟩ 0 = W := ⟨_, rfl⟩
            obtain ⟨r9, m9⟩ := setTok_row 0 0 ⟨#[]⟩ (.slice none 0 0) ⟨#[]⟩ 0 (HD.out.1).out
            rw [hw9] at r9 m9 ⊢
            obtain ⟨⟨y0, y1, y2, y3, y4, y5⟩, _⟩ := six_cells r9
            refine bodyPost_ret (v := .tuple #[tokV 0 0 ⟨#[]⟩ (.slice none 0 0) ⟨#[]⟩ 0, .int .i64 0, .int .i64 23]) ?_ rfl ?_
            · simp [results, Tryz.results29, go_sem, y0, y1, y2, y3, y4, y5]
            · exact rt_err hr ⟨rfl, HD.out.1.rst.laid m9⟩
          · have hs := decl_skip ps q h0 hlt hno
            have z1 : ((kk : Int) == 0) = false := by rw [beq_eq_false_iff_ne]; omega
            have z2 : ¬ (kk : Int) = 0 := by omega
            have HS := Lib.hid hs
            clear hno sa hs
            go_wp2_with (fail)
            refine (WH.out _).mono ?_
            rintro e w' ⟨rfl, rfl⟩
            go_wp2_with (fail)
            refine (SA.out _).mono ?_
            rintro e w' ⟨rfl, rfl⟩
            go_wp2_with (fail)
            go_roundw
            case rel => exact ⟨kk + 1, j, q, _, ps, by go_num, by omega, rfl, hj, rfl, by omega, Lib.hid ⟨HD.out.1, HS.out.symm.trans HD.out.2.1, fun h => HD.out.2.2 (by omega)⟩⟩
            case measure => simp [intOf]; omega
        · have hye : hereB t kk j = true := by unfold hereB; rw [HK1.out, HWD.out, sa, decide_eq_true hjk]; rfl
          rw [sa] at SA
          obtain ⟨hroom, hcase⟩ := decl_here ps q hj hlt hye
          rw [HK1.out, HWD.out] at hroom hcase
          have VA := Lib.hid (fun W => refValue_at t ((k1 : Int) + (wd.size : Int)) (k1 + wd.size) W (by omega) ht hroom)
          rcases hcase with ⟨hv, hr0⟩ | ⟨raw, m, hv, hjm, hmt, hraw, hr0⟩
          · have hr : R = .error 23 := by rw [← HD.out.2.1]; exact hr0
            rw [hv] at VA
            clear hk1 hwd hye sa hv hr0
            obtain ⟨⟨c0, c1, c2, c3, c4, c5⟩, ⟨f0, f1, f2, f3, f4, f5⟩⟩ := six_cells HD.out.1.out
            go_wp2_with (fail)
            refine (WH.out _).mono ?_
            rintro e w' ⟨rfl, rfl⟩
            go_wp2_with (fail)
            refine (SA.out _).mono ?_
            rintro e w' ⟨rfl, rfl⟩
            go_wp2_with (fail)
            refine (VA.out _).mono ?_
            rintro e w' ⟨rfl, rfl⟩
            go_wp2_with (fail)
            change bodyPost _ _ _ _ _ (setTok wr w.heap.size 0 0 ⟨#[]⟩ (.slice none 0 0) ⟨#[]⟩ 0)
            obtain ⟨w9, hw9⟩ : ∃ W, setTok wr w.heap.size 0 0 ⟨#[]⟩ (.slice none 0 0) ⟨#[]⟩ 0 = W := ⟨_, rfl⟩
            obtain ⟨r9, m9⟩ := setTok_row 0 0 ⟨#[]⟩ (.slice none 0 0) ⟨#[]⟩ 0 (HD.out.1).out
            rw [hw9] at r9 m9 ⊢
            obtain ⟨⟨y0, y1, y2, y3, y4, y5⟩, _⟩ := six_cells r9
            refine bodyPost_ret (v := .tuple #[tokV 0 0 ⟨#[]⟩ (.slice none 0 0) ⟨#[]⟩ 0, .int .i64 0, .int .i64 23]) ?_ rfl ?_
            · simp [results, Tryz.results29, go_sem, y0, y1, y2, y3, y4, y5]
            · exact rt_err hr ⟨rfl, HD.out.1.rst.laid m9⟩
          · rw [hv] at VA
            have m5 : ¬ (m : Int) < 0 := by omega
            have m6 : decide ((m : Int) < 0) = false := decide_eq_false m5
            have AL := Lib.hid (fun W => allowed_any kk hlt raw W (by omega))
            cases ha : rightK kk raw
            · have hr : R = .error 23 := by rw [← HD.out.2.1, hr0, ha, if_neg (by decide)]
              rw [ha] at AL
              clear hk1 hwd hye sa hv hr0 ha
              obtain ⟨⟨c0, c1, c2, c3, c4, c5⟩, ⟨f0, f1, f2, f3, f4, f5⟩⟩ := six_cells HD.out.1.out
              go_wp2_with (fail)
              refine (WH.out _).mono ?_
              rintro e w' ⟨rfl, rfl⟩
              go_wp2_with (fail)
              refine (SA.out _).mono ?_
              rintro e w' ⟨rfl, rfl⟩
              go_wp2_with (fail)
              refine (VA.out _).mono ?_
              rintro e w' ⟨rfl, rfl⟩
              go_wp2_with (fail)
              refine (AL.out _).mono ?_
              rintro e w' ⟨rfl, rfl⟩
              go_wp2_with (fail)
              change bodyPost _ _ _ _ _ (setTok wr w.heap.size 0 0 ⟨#[]⟩ (.slice none 0 0) ⟨#[]⟩ 0)
              obtain ⟨w9, hw9⟩ : ∃ W, setTok wr w.heap.size 0 0 ⟨#[]⟩ (.slice none 0 0) ⟨#[]⟩ 0 = W := ⟨_, rfl⟩
              obtain ⟨r9, m9⟩ := setTok_row 0 0 ⟨#[]⟩ (.slice none 0 0) ⟨#[]⟩ 0 (HD.out.1).out
              rw [hw9] at r9 m9 ⊢
              obtain ⟨⟨y0, y1, y2, y3, y4, y5⟩, _⟩ := six_cells r9
              refine bodyPost_ret (v := .tuple #[tokV 0 0 ⟨#[]⟩ (.slice none 0 0) ⟨#[]⟩ 0, .int .i64 0, .int .i64 23]) ?_ rfl ?_
              · simp [results, Tryz.results29, go_sem, y0, y1, y2, y3, y4, y5]
              · exact rt_err hr ⟨rfl, HD.out.1.rst.laid m9⟩
            · rw [ha, if_pos rfl] at hr0
              rw [ha] at AL
              have HR0 := Lib.hid hr0
              clear hk1 hwd hye sa hv hr0 ha
              have n2 := heap_alloc_new wr (.cells #[.string wd, .string raw] 52)
              have p2 : RPairsAt (wr.alloc (.cells #[.string wd, .string raw] 52)) _ _ _ := World.ownsRow.alloc HD.out.1.prs _
              have hxw : X < wr.heap.size := (Array.getElem?_eq_some_iff.1 HD.out.1.row).1
              obtain ⟨v', w10, hrun, p10, hg10⟩ := append_rpair (p := (wd, raw)) p2 n2 (by simp; omega) (by omega)
              obtain ⟨hrow, hnext⟩ := TSt.more _ HD.out.1 hg10 p10
              obtain ⟨q3, c3, hv3⟩ := p10.form
              rw [show (ps ++ [(wd, raw)]).length = ps.length + 1 by simp] at hv3
              subst hv3
              have RUN := Lib.hid hrun
              have HNX := Lib.hid hnext
              have SM := Lib.hid (fun W => refSmall_any raw W (by omega))
              obtain ⟨⟨d0, d1, d2, d3, d4, d5⟩, ⟨g0, g1, g2, g3, g4, g5⟩⟩ := six_cells HD.out.1.row
              obtain ⟨⟨e0, e1, e2, e3, e4, e5⟩, ⟨h0, h1, h2, h3, h4, h5⟩⟩ := six_cells hrow
              clear n2 p2 hrun p10 hg10 hrow hnext
              go_wp2_with (fail)
              refine (WH.out _).mono ?_
              rintro e w' ⟨rfl, rfl⟩
              go_wp2_with (fail)
              refine (SA.out _).mono ?_
              rintro e w' ⟨rfl, rfl⟩
              go_wp2_with (fail)
              refine (VA.out _).mono ?_
              rintro e w' ⟨rfl, rfl⟩
              go_wp2_with (fail)
              refine (AL.out _).mono ?_
              rintro e w' ⟨rfl, rfl⟩
              go_upto_region 14 with (at_builtin; refine wpList_append_eq rfl (.tmp 52) (.tmp 56) 35 rfl _ _ _ _ rfl rfl RUN.out ?_)
              obtain ⟨W11, hW11⟩ : ∃ W, w10.setCell ⟨X, 3, none⟩ (.slice q3 (ps.length + 1) c3) = W := ⟨_, rfl⟩
              rw [hW11] at HNX ⊢
              clear hW11 d0 d1 d2 d3 d4 d5 g0 g1 g2 g3 g4 g5 e0 e1 e2 e3 e4 e5 h0 h1 h2 h3 h4 h5
              have hpl : (ps ++ [(wd, raw)]).length ≤ kk + 1 := by rw [List.length_append]; simp only [List.length_cons, List.length_nil]; omega
              have HPL := Lib.hid hpl
              have HMT := Lib.hid hmt
              clear hpl hmt hjm hroom hraw hwz m6
              cases q
              · have hk2 : kk = 2 := by
                  have e := HD.out.2.2
                  rcases Nat.lt_or_ge 1 kk with h | h
                  · omega
                  · cases e h
                have hr2 : declS t (kk + 1) m (ps ++ [(wd, raw)]) false = R := by rw [← HD.out.2.1, HR0.out]; subst hk2; rfl
                have HQ := Lib.hid (And.intro hr2 hk2)
                clear hr2 hk2
                go_wp2_with (fail)
                go_roundw
                case rel => exact ⟨kk + 1, m, false, _, ps ++ [(wd, raw)], by go_num, by omega, rfl, HMT.out, rfl, HPL.out, Lib.hid ⟨HNX.out, HQ.out.1, fun h => absurd h (by have := HQ.out.2; omega)⟩⟩
                case measure => simp [intOf]; omega
              · by_cases hk1 : kk = 1
                · have z1 : ((kk : Int) == 1) = true := by rw [beq_iff_eq]; omega
                  have z2 : ((kk : Int) == 0) = false := by rw [beq_eq_false_iff_ne]; omega
                  have hr2 : declS t (kk + 1) m (ps ++ [(wd, raw)]) (utf8B raw) = R := by rw [← HD.out.2.1, HR0.out, if_pos hk1]
                  have HQ := Lib.hid (And.intro hr2 hk1)
                  cases hu : utf8B raw
                  · have x1 : ((smallB raw).toList == [117, 116, 102, 45, 56]) = false := by
                      rw [beq_eq_false_iff_ne]
                      intro e
                      rw [(small_utf8 raw).1 e] at hu
                      cases hu
                    rw [hu] at HQ
                    clear hr2 hk1 hu
                    go_wp2_with (fail)
                    refine (SM.out W11).mono ?_
                    rintro e w12 ⟨rfl, hb12⟩
                    have HN12 := Lib.hid (HNX.out.grew hb12)
                    clear hb12
                    go_wp2_with (fail)
                    go_roundw
                    case rel => exact ⟨kk + 1, m, false, _, ps ++ [(wd, raw)], by go_num, by omega, rfl, HMT.out, rfl, HPL.out, Lib.hid ⟨HN12.out, HQ.out.1, fun h => absurd h (by have := HQ.out.2; omega)⟩⟩
                    case measure => simp [intOf]; omega
                  · have x1 : (smallB raw).toList = [117, 116, 102, 45, 56] := (small_utf8 raw).2 hu
                    rw [hu] at HQ
                    clear hr2 hk1 hu
                    go_wp2_with (fail)
                    refine (SM.out W11).mono ?_
                    rintro e w12 ⟨rfl, hb12⟩
                    have HN12 := Lib.hid (HNX.out.grew hb12)
                    clear hb12
                    go_wp2_with (fail)
                    go_roundw
                    case rel => exact ⟨kk + 1, m, true, _, ps ++ [(wd, raw)], by go_num, by omega, rfl, HMT.out, rfl, HPL.out, Lib.hid ⟨HN12.out, HQ.out.1, fun _ => rfl⟩⟩
                    case measure => simp [intOf]; omega
                · have z1 : ((kk : Int) == 1) = false := by rw [beq_eq_false_iff_ne]; omega
                  have hr2 : declS t (kk + 1) m (ps ++ [(wd, raw)]) true = R := by
                    rw [← HD.out.2.1, HR0.out, if_neg hk1]
                    by_cases h0 : kk = 0
                    · rw [if_pos h0]
                    · rw [if_neg h0]
                  have HQ := Lib.hid hr2
                  clear hr2 hk1
                  go_wp2_with (fail)
                  go_roundw
                  case rel => exact ⟨kk + 1, m, true, _, ps ++ [(wd, raw)], by go_num, by omega, rfl, HMT.out, rfl, HPL.out, Lib.hid ⟨HNX.out, HQ.out, fun _ => rfl⟩⟩
                  case measure => simp [intOf]; omega
      · have g1 : ¬ (j : Int) < (k1 : Int) := by omega
        have g2 : decide ((j : Int) < (k1 : Int)) = false := decide_eq_false g1
        have hno : hereB t kk j = false := by unfold hereB; rw [HK1.out, decide_eq_false hjk, Bool.false_and]
        clear hk1 hwd
        by_cases h0 : kk = 0
        · have hr : R = .error 23 := by have e := HD.out.2.1; subst h0; rw [← e]; exact decl_skip0 _ _ hno
          have z1 : ((kk : Int) == 0) = true := by rw [beq_iff_eq]; omega
          clear hno h0
          obtain ⟨⟨c0, c1, c2, c3, c4, c5⟩, ⟨f0, f1, f2, f3, f4, f5⟩⟩ := six_cells HD.out.1.out
          go_wp2_with (fail)
          refine (WH.out _).mono ?_
          rintro e w' ⟨rfl, rfl⟩
          go_wp2_with (fail)
          change bodyPost _ _ _ _ _ (setTok wr w.heap.size 0 0 ⟨#[]⟩ (.slice none 0 0) ⟨#[]⟩ 0)
          obtain ⟨w9, hw9⟩ : ∃ W, setTok wr w.heap.size 0 0 ⟨#[]⟩ (.slice none 0 0) ⟨#[]⟩ 0 = W := ⟨_, rfl⟩
          obtain ⟨r9, m9⟩ := setTok_row 0 0 ⟨#[]⟩ (.slice none 0 0) ⟨#[]⟩ 0 (HD.out.1).out
          rw [hw9] at r9 m9 ⊢
          obtain ⟨⟨y0, y1, y2, y3, y4, y5⟩, _⟩ := six_cells r9
          refine bodyPost_ret (v := .tuple #[tokV 0 0 ⟨#[]⟩ (.slice none 0 0) ⟨#[]⟩ 0, .int .i64 0, .int .i64 23]) ?_ rfl ?_
          · simp [results, Tryz.results29, go_sem, y0, y1, y2, y3, y4, y5]
          · exact rt_err hr ⟨rfl, HD.out.1.rst.laid m9⟩
        · have hs := decl_skip ps q h0 hlt hno
          have z1 : ((kk : Int) == 0) = false := by rw [beq_eq_false_iff_ne]; omega
          have z2 : ¬ (kk : Int) = 0 := by omega
          have HS := Lib.hid hs
          clear hno hs
          go_wp2_with (fail)
          refine (WH.out _).mono ?_
          rintro e w' ⟨rfl, rfl⟩
          go_wp2_with (fail)
          go_roundw
          case rel => exact ⟨kk + 1, j, q, _, ps, by go_num, by omega, rfl, hj, rfl, by omega, Lib.hid ⟨HD.out.1, HS.out.symm.trans HD.out.2.1, fun h => HD.out.2.2 (by omega)⟩⟩
          case measure => simp [intOf]; omega
    · obtain rfl : kk = 3 := by omega
      have hdS : declEnd t j ps q = R := HD.out.2.1
      have SE := Lib.hid (fun W => refStands_at t ⟨#[63, 62]⟩ (k1 : Int) k1 [63, 62] W rfl rfl (by omega) (by omega) (by decide) (by decide))
      clear hk1
      cases se : seesB t k1 [63, 62]
      · have hr : R = .error 23 := by rw [← hdS]; unfold declEnd; rw [HK1.out, se, if_neg (by decide)]
        rw [se] at SE
        clear hdS se
        obtain ⟨⟨c0, c1, c2, c3, c4, c5⟩, ⟨f0, f1, f2, f3, f4, f5⟩⟩ := six_cells HD.out.1.out
        go_wp2_with (fail)
        refine (WH.out _).mono ?_
        rintro e w' ⟨rfl, rfl⟩
        go_wp2_with (fail)
        refine (SE.out _).mono ?_
        rintro e w' ⟨rfl, rfl⟩
        go_wp2_with (fail)
        change bodyPost _ _ _ _ _ (setTok wr w.heap.size 0 0 ⟨#[]⟩ (.slice none 0 0) ⟨#[]⟩ 0)
        obtain ⟨w9, hw9⟩ : ∃ W, setTok wr w.heap.size 0 0 ⟨#[]⟩ (.slice none 0 0) ⟨#[]⟩ 0 = W := ⟨_, rfl⟩
        obtain ⟨r9, m9⟩ := setTok_row 0 0 ⟨#[]⟩ (.slice none 0 0) ⟨#[]⟩ 0 (HD.out.1).out
        rw [hw9] at r9 m9 ⊢
        obtain ⟨⟨y0, y1, y2, y3, y4, y5⟩, _⟩ := six_cells r9
        refine bodyPost_ret (v := .tuple #[tokV 0 0 ⟨#[]⟩ (.slice none 0 0) ⟨#[]⟩ 0, .int .i64 0, .int .i64 23]) ?_ rfl ?_
        · simp [results, Tryz.results29, go_sem, y0, y1, y2, y3, y4, y5]
        · exact rt_err hr ⟨rfl, HD.out.1.rst.laid m9⟩
      · rw [se] at SE
        cases q
        · have hr : R = .error 25 := by rw [← hdS]; unfold declEnd; rw [HK1.out, se, if_pos rfl, if_neg (by decide)]
          clear hdS se
          obtain ⟨⟨c0, c1, c2, c3, c4, c5⟩, ⟨f0, f1, f2, f3, f4, f5⟩⟩ := six_cells HD.out.1.out
          go_wp2_with (fail)
          refine (WH.out _).mono ?_
          rintro e w' ⟨rfl, rfl⟩
          go_wp2_with (fail)
          refine (SE.out _).mono ?_
          rintro e w' ⟨rfl, rfl⟩
          go_wp2_with (fail)
          change bodyPost _ _ _ _ _ (setTok wr w.heap.size 0 0 ⟨#[]⟩ (.slice none 0 0) ⟨#[]⟩ 0)
          obtain ⟨w9, hw9⟩ : ∃ W, setTok wr w.heap.size 0 0 ⟨#[]⟩ (.slice none 0 0) ⟨#[]⟩ 0 = W := ⟨_, rfl⟩
          obtain ⟨r9, m9⟩ := setTok_row 0 0 ⟨#[]⟩ (.slice none 0 0) ⟨#[]⟩ 0 (HD.out.1).out
          rw [hw9] at r9 m9 ⊢
          obtain ⟨⟨y0, y1, y2, y3, y4, y5⟩, _⟩ := six_cells r9
          refine bodyPost_ret (v := .tuple #[tokV 0 0 ⟨#[]⟩ (.slice none 0 0) ⟨#[]⟩ 0, .int .i64 0, .int .i64 25]) ?_ rfl ?_
          · simp [results, Tryz.results29, go_sem, y0, y1, y2, y3, y4, y5]
          · exact rt_err hr ⟨rfl, HD.out.1.rst.laid m9⟩
        · have hr : R = .ok (⟨1, ⟨#[]⟩, ps, ⟨#[]⟩, 0⟩, k1 + 2) := by rw [← hdS]; unfold declEnd; rw [HK1.out, se, if_pos rfl, if_pos rfl]
          clear hdS se
          obtain ⟨⟨c0, c1, c2, c3, c4, c5⟩, ⟨f0, f1, f2, f3, f4, f5⟩⟩ := six_cells HD.out.1.out
          obtain ⟨⟨d0, d1, d2, d3, d4, d5⟩, ⟨g0, g1, g2, g3, g4, g5⟩⟩ := six_cells HD.out.1.row
          go_wp2_with (fail)
          refine (WH.out _).mono ?_
          rintro e w' ⟨rfl, rfl⟩
          go_wp2_with (fail)
          refine (SE.out _).mono ?_
          rintro e w' ⟨rfl, rfl⟩
          go_wp2_with (fail)
          change bodyPost _ _ _ _ _ (setTok wr w.heap.size 1 0 ⟨#[]⟩ (.slice q0 ps.length q1) ⟨#[]⟩ 0)
          obtain ⟨w9, hw9⟩ : ∃ W, setTok wr w.heap.size 1 0 ⟨#[]⟩ (.slice q0 ps.length q1) ⟨#[]⟩ 0 = W := ⟨_, rfl⟩
          obtain ⟨r9, m9⟩ := setTok_row 1 0 ⟨#[]⟩ (.slice q0 ps.length q1) ⟨#[]⟩ 0 (HD.out.1).out
          rw [hw9] at r9 m9 ⊢
          obtain ⟨⟨y0, y1, y2, y3, y4, y5⟩, _⟩ := six_cells r9
          refine bodyPost_ret (v := .tuple #[tokV 1 0 ⟨#[]⟩ (.slice q0 ps.length q1) ⟨#[]⟩ 0, .int .i64 ((k1 : Int) + 2), .int .i64 0]) ?_ rfl ?_
          · simp [results, Tryz.results29, go_sem, y0, y1, y2, y3, y4, y5]
          · exact HD.out.1.done hr m9
theorem refDecl_any (t : ByteArray) (w : World) (ht : t.size ≤ 4000000) (h5 : 5 ≤ t.size) : Calls Tryz.prog 29 #[.string t] w (RtPost w (declF t 5)) :=
  rdecl_go t w ht h5 _ (declS_all t 5).symm
end Go.Proofs.YtidimpepfkdcmaaGreatDoor
