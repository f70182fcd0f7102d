/- Proved here: the reader's token: what it reads, where it leaves the reader. | Proved here: the tokens of a text without faults, as they lie in memory. -/
import Derived.Test.YteipiaefamfleaaGreatDoorM11
import Derived.Test.YteipiaefamfleaaGreatDoorM12
import Derived.Test.YteipiaefamfleaaGreatDoorM13
import Derived.Test.YteipiaefamfleaaGreatDoorM15
import Derived.Test.YteipiaefamfleaaGreatDoorM16
namespace Go.Proofs.YteipiaefamfleaaGreatDoor
open Go.RowKit

set_option maxRecDepth 100000 in
set_option maxHeartbeats 32000000 in
theorem token_any (t : ByteArray) (b off cap R k : Nat) (w0 w : World) (E : Env w0 R b off cap t) (hB : Below w0.heap.size w0 w) (h : Rd w R (rv b off cap t) k) (_hk : k ≤ t.size) (hkt : k < t.size) :
    Calls Tryz.prog 20 #[.pointer (some ⟨R, 0, none⟩)] w fun e w' => TokPost R b off cap t w (tokF t k) e w' ∧ Moved R w w' := by
  have hkl := Nat.le_of_lt hkt
  obtain ⟨tok, htok⟩ : ∃ r, tokF t k = r := ⟨_, rfl⟩
  rw [htok]
  unfold tokF at htok
  have HE := Lib.hid (And.intro E (And.intro hB h))
  clear h E hB
  go_enter Tryz.func20, Tryz.ntmps20
  go_wp2_with (fail)
  obtain ⟨W1, hW1⟩ : ∃ W, w.alloc TOK0 = W := ⟨_, rfl⟩
  rw [hW1]
  have S1 := Lib.hid (St.first HE.out.1 HE.out.2.1 HE.out.2.2 hW1)
  clear hW1
  refine (declares_any t b off cap R k w0 W1 S1.out.env S1.out.below S1.out.rd hkl).mono ?_
  rintro e w2 ⟨rfl, hb⟩
  have S2 := Lib.hid (S1.out.grew hb)
  clear hb
  cases ho : opensB t k
  · rw [if_neg (by rw [ho]; simp)] at htok
    clear ho
    go_wp2_with (fail)
    cases hs0 : seesB t k [60, 33, 45, 45]
    · rw [if_neg (by rw [hs0]; simp)] at htok
      refine (take_no t ⟨#[60, 33, 45, 45]⟩ b off cap R k w2 S2.out.rd hkl S2.out.txt hs0).mono ?_
      rintro e v3 ⟨rfl, hr, hm⟩
      have S3 := Lib.hid (S2.out.moved hr hm)
      clear hr hm hs0
      go_wp2_with (fail)
      cases hs1 : seesB t k [60, 33, 91, 67, 68, 65, 84, 65, 91]
      · rw [if_neg (by rw [hs1]; simp)] at htok
        refine (take_no t ⟨#[60, 33, 91, 67, 68, 65, 84, 65, 91]⟩ b off cap R k v3 S3.out.rd hkl S3.out.txt hs1).mono ?_
        rintro e v4 ⟨rfl, hr, hm⟩
        have S4 := Lib.hid (S3.out.moved hr hm)
        clear hr hm hs1
        go_wp2_with (fail)
        cases hs2 : seesB t k [60, 33, 68, 79, 67, 84, 89, 80, 69]
        · rw [if_neg (by rw [hs2]; simp)] at htok
          refine (take_no t ⟨#[60, 33, 68, 79, 67, 84, 89, 80, 69]⟩ b off cap R k v4 S4.out.rd hkl S4.out.txt hs2).mono ?_
          rintro e v5 ⟨rfl, hr, hm⟩
          have S5 := Lib.hid (S4.out.moved hr hm)
          clear hr hm hs2
          go_wp2_with (fail)
          cases hs3 : seesB t k [60, 33]
          · rw [if_neg (by rw [hs3]; simp)] at htok
            refine (take_no t ⟨#[60, 33]⟩ b off cap R k v5 S5.out.rd hkl S5.out.txt hs3).mono ?_
            rintro e v6 ⟨rfl, hr, hm⟩
            have S6 := Lib.hid (S5.out.moved hr hm)
            clear hr hm hs3
            go_wp2_with (fail)
            cases hs4 : seesB t k [60, 63]
            · rw [if_neg (by rw [hs4]; simp)] at htok
              refine (take_no t ⟨#[60, 63]⟩ b off cap R k v6 S6.out.rd hkl S6.out.txt hs4).mono ?_
              rintro e v7 ⟨rfl, hr, hm⟩
              have S7 := Lib.hid (S6.out.moved hr hm)
              clear hr hm hs4
              go_wp2_with (fail)
              cases hs5 : seesB t k [60, 47]
              · rw [if_neg (by rw [hs5]; simp)] at htok
                refine (take_no t ⟨#[60, 47]⟩ b off cap R k v7 S7.out.rd hkl S7.out.txt hs5).mono ?_
                rintro e v8 ⟨rfl, hr, hm⟩
                have S8 := Lib.hid (S7.out.moved hr hm)
                clear hr hm hs5
                go_wp2_with (fail)
                cases hs6 : seesB t k [60]
                · rw [if_neg (by rw [hs6]; simp)] at htok
                  refine (take_no t ⟨#[60]⟩ b off cap R k v8 S8.out.rd hkl S8.out.txt hs6).mono ?_
                  rintro e v9 ⟨rfl, hr, hm⟩
                  have S9 := Lib.hid (S8.out.moved hr hm)
                  clear hr hm hs6
                  have HTOK := Lib.hid htok.symm
                  clear htok
                  have CX := chars_any t b off cap R k w0 v9 S9.out.env S9.out.below S9.out.rd hkl hkt
                  have CH := Lib.hid CX
                  clear CX
                  go_wp2_with (fail)
                  refine CH.out.mono ?_
                  rintro e wz ⟨hpost, hm⟩
                  clear CH
                  have hrow := (hm.block _ S9.out.le (fun e => by injection e with e; have := S9.out.lt; omega)).trans S9.out.out
                  have hmz := S9.out.mv.trans hm
                  cases hres : charsF t k with
                  | error e0 =>
                    rw [hres] at hpost
                    have hpe : e = .returned (.tuple #[tokV 0 0 ⟨#[]⟩ (.slice none 0 0) ⟨#[]⟩ 0, .int .i64 (e0 : Int)]) := hpost
                    subst hpe
                    have ROW := Lib.hid hrow
                    have MZ := Lib.hid hmz
                    have HRES := Lib.hid (HTOK.out.trans hres)
                    clear hrow hmz hpost hres hm
                    obtain ⟨⟨c0, c1, c2, c3, c4, c5⟩, ⟨f0, f1, f2, f3, f4, f5⟩⟩ := six_cells ROW.out
                    go_wp2_with (fail)
                    change bodyPost _ _ _ _ _ (setTok wz w.heap.size 0 0 ⟨#[]⟩ (.slice none 0 0) ⟨#[]⟩ 0)
                    obtain ⟨w9, hw9⟩ : ∃ W, setTok wz w.heap.size 0 0 ⟨#[]⟩ (.slice none 0 0) ⟨#[]⟩ 0 = W := ⟨_, rfl⟩
                    obtain ⟨r9, m9⟩ := setTok_row 0 0 ⟨#[]⟩ (.slice none 0 0) ⟨#[]⟩ 0 ROW.out
                    rw [hw9] at r9 m9 ⊢
                    obtain ⟨⟨d0, d1, d2, d3, d4, d5⟩, _⟩ := six_cells r9
                    refine bodyPost_ret (v := .tuple #[tokV 0 0 ⟨#[]⟩ (.slice none 0 0) ⟨#[]⟩ 0, .int .i64 (e0 : Int)]) ?_ rfl ?_
                    · rw [results_cell_tmp rfl]
                      go_simp
                    · rw [HRES.out]
                      exact ⟨rfl, MZ.out.past m9 (Nat.le_refl _)⟩
                  | ok x =>
                    obtain ⟨x, i⟩ := x
                    rw [hres] at hpost
                    obtain ⟨pv, he, hpa, hrz⟩ := hpost
                    obtain ⟨q, m, c, rfl⟩ : ∃ q m c, pv = .slice q m c := hpa.form
                    subst he
                    have ROW := Lib.hid hrow
                    have MZ := Lib.hid hmz
                    have HPA := Lib.hid hpa
                    have HRZ := Lib.hid hrz
                    have HRES := Lib.hid (HTOK.out.trans hres)
                    have hlt := S9.out.le
                    have HLT := Lib.hid hlt
                    clear hrow hmz hpa hrz hres hm hlt
                    obtain ⟨⟨c0, c1, c2, c3, c4, c5⟩, ⟨f0, f1, f2, f3, f4, f5⟩⟩ := six_cells ROW.out
                    go_wp2_with (fail)
                    change bodyPost _ _ _ _ _ (setTok wz w.heap.size (x.kind : Int) 0 x.name (.slice q m c) x.text (x.refs : Int))
                    obtain ⟨w9, hw9⟩ : ∃ W, setTok wz w.heap.size (x.kind : Int) 0 x.name (.slice q m c) x.text (x.refs : Int) = W := ⟨_, rfl⟩
                    obtain ⟨r9, m9⟩ := setTok_row (x.kind : Int) 0 x.name (.slice q m c) x.text (x.refs : Int) ROW.out
                    rw [hw9] at r9 m9 ⊢
                    obtain ⟨⟨d0, d1, d2, d3, d4, d5⟩, _⟩ := six_cells r9
                    refine bodyPost_ret (v := .tuple #[tokV (x.kind : Int) 0 x.name (.slice q m c) x.text (x.refs : Int), .int .i64 0]) ?_ rfl ?_
                    · rw [results_cell_tmp rfl]
                      go_simp
                    · rw [HRES.out]
                      have hR := S9.out.lt
                      have hlt := HLT.out
                      exact ⟨⟨.slice q m c, rfl, PairsAt.less (World.ownsRow.kept HPA.out m9 (.inr (HPA.out.ne ROW.out (fun cs e => by injection e with _ e2 _; cases e2)))) (by omega), HRZ.out.past m9 (by omega)⟩, MZ.out.past m9 (Nat.le_refl _)⟩
                · rw [if_pos hs6] at htok
                  have hroom : k + 1 ≤ t.size := sees_room hkl hs6
                  refine (take_yes t ⟨#[60]⟩ b off cap R k v8 S8.out.rd hkl S8.out.txt (by decide) hs6).mono ?_
                  rintro e v9 ⟨rfl, hr, hm⟩
                  have S9 := Lib.hid (S8.out.moved hr hm)
                  clear hr hm hs6
                  have HTOK := Lib.hid htok.symm
                  clear htok
                  have CX := opening_any t b off cap R (k + 1) w0 v9 S9.out.env S9.out.below S9.out.rd hroom
                  have CH := Lib.hid CX
                  clear CX
                  go_wp2_with (fail)
                  refine CH.out.mono ?_
                  rintro e wz ⟨hpost, hm⟩
                  clear CH
                  have hrow := (hm.block _ S9.out.le (fun e => by injection e with e; have := S9.out.lt; omega)).trans S9.out.out
                  have hmz := S9.out.mv.trans hm
                  cases hres : tagF t (k + 1) with
                  | error e0 =>
                    rw [hres] at hpost
                    have hpe : e = .returned (.tuple #[tokV 0 0 ⟨#[]⟩ (.slice none 0 0) ⟨#[]⟩ 0, .int .i64 (e0 : Int)]) := hpost
                    subst hpe
                    have ROW := Lib.hid hrow
                    have MZ := Lib.hid hmz
                    have HRES := Lib.hid (HTOK.out.trans hres)
                    clear hrow hmz hpost hres hm
                    obtain ⟨⟨c0, c1, c2, c3, c4, c5⟩, ⟨f0, f1, f2, f3, f4, f5⟩⟩ := six_cells ROW.out
                    go_wp2_with (fail)
                    change bodyPost _ _ _ _ _ (setTok wz w.heap.size 0 0 ⟨#[]⟩ (.slice none 0 0) ⟨#[]⟩ 0)
                    obtain ⟨w9, hw9⟩ : ∃ W, setTok wz w.heap.size 0 0 ⟨#[]⟩ (.slice none 0 0) ⟨#[]⟩ 0 = W := ⟨_, rfl⟩
                    obtain ⟨r9, m9⟩ := setTok_row 0 0 ⟨#[]⟩ (.slice none 0 0) ⟨#[]⟩ 0 ROW.out
                    rw [hw9] at r9 m9 ⊢
                    obtain ⟨⟨d0, d1, d2, d3, d4, d5⟩, _⟩ := six_cells r9
                    refine bodyPost_ret (v := .tuple #[tokV 0 0 ⟨#[]⟩ (.slice none 0 0) ⟨#[]⟩ 0, .int .i64 (e0 : Int)]) ?_ rfl ?_
                    · rw [results_cell_tmp rfl]
                      go_simp
                    · rw [HRES.out]
                      exact ⟨rfl, MZ.out.past m9 (Nat.le_refl _)⟩
                  | ok x =>
                    obtain ⟨x, i⟩ := x
                    rw [hres] at hpost
                    obtain ⟨pv, he, hpa, hrz⟩ := hpost
                    obtain ⟨q, m, c, rfl⟩ : ∃ q m c, pv = .slice q m c := hpa.form
                    subst he
                    have ROW := Lib.hid hrow
                    have MZ := Lib.hid hmz
                    have HPA := Lib.hid hpa
                    have HRZ := Lib.hid hrz
                    have HRES := Lib.hid (HTOK.out.trans hres)
                    have hlt := S9.out.le
                    have HLT := Lib.hid hlt
                    clear hrow hmz hpa hrz hres hm hlt
                    obtain ⟨⟨c0, c1, c2, c3, c4, c5⟩, ⟨f0, f1, f2, f3, f4, f5⟩⟩ := six_cells ROW.out
                    go_wp2_with (fail)
                    change bodyPost _ _ _ _ _ (setTok wz w.heap.size (x.kind : Int) 0 x.name (.slice q m c) x.text (x.refs : Int))
                    obtain ⟨w9, hw9⟩ : ∃ W, setTok wz w.heap.size (x.kind : Int) 0 x.name (.slice q m c) x.text (x.refs : Int) = W := ⟨_, rfl⟩
                    obtain ⟨r9, m9⟩ := setTok_row (x.kind : Int) 0 x.name (.slice q m c) x.text (x.refs : Int) ROW.out
                    rw [hw9] at r9 m9 ⊢
                    obtain ⟨⟨d0, d1, d2, d3, d4, d5⟩, _⟩ := six_cells r9
                    refine bodyPost_ret (v := .tuple #[tokV (x.kind : Int) 0 x.name (.slice q m c) x.text (x.refs : Int), .int .i64 0]) ?_ rfl ?_
                    · rw [results_cell_tmp rfl]
                      go_simp
                    · rw [HRES.out]
                      have hR := S9.out.lt
                      have hlt := HLT.out
                      exact ⟨⟨.slice q m c, rfl, PairsAt.less (World.ownsRow.kept HPA.out m9 (.inr (HPA.out.ne ROW.out (fun cs e => by injection e with _ e2 _; cases e2)))) (by omega), HRZ.out.past m9 (by omega)⟩, MZ.out.past m9 (Nat.le_refl _)⟩
              · rw [if_pos hs5] at htok
                have hroom : k + 2 ≤ t.size := sees_room hkl hs5
                refine (take_yes t ⟨#[60, 47]⟩ b off cap R k v7 S7.out.rd hkl S7.out.txt (by decide) hs5).mono ?_
                rintro e v8 ⟨rfl, hr, hm⟩
                have S8 := Lib.hid (S7.out.moved hr hm)
                clear hr hm hs5
                have HTOK := Lib.hid htok.symm
                clear htok
                have CX := closing_any t b off cap R (k + 2) w0 v8 S8.out.env S8.out.below S8.out.rd hroom
                have CH := Lib.hid CX
                clear CX
                go_wp2_with (fail)
                refine CH.out.mono ?_
                rintro e wz ⟨hpost, hm⟩
                clear CH
                have hrow := (hm.block _ S8.out.le (fun e => by injection e with e; have := S8.out.lt; omega)).trans S8.out.out
                have hmz := S8.out.mv.trans hm
                cases hres : closingF t (k + 2) with
                | error e0 =>
                  rw [hres] at hpost
                  have hpe : e = .returned (.tuple #[tokV 0 0 ⟨#[]⟩ (.slice none 0 0) ⟨#[]⟩ 0, .int .i64 (e0 : Int)]) := hpost
                  subst hpe
                  have ROW := Lib.hid hrow
                  have MZ := Lib.hid hmz
                  have HRES := Lib.hid (HTOK.out.trans hres)
                  clear hrow hmz hpost hres hm
                  obtain ⟨⟨c0, c1, c2, c3, c4, c5⟩, ⟨f0, f1, f2, f3, f4, f5⟩⟩ := six_cells ROW.out
                  go_wp2_with (fail)
                  change bodyPost _ _ _ _ _ (setTok wz w.heap.size 0 0 ⟨#[]⟩ (.slice none 0 0) ⟨#[]⟩ 0)
                  obtain ⟨w9, hw9⟩ : ∃ W, setTok wz w.heap.size 0 0 ⟨#[]⟩ (.slice none 0 0) ⟨#[]⟩ 0 = W := ⟨_, rfl⟩
                  obtain ⟨r9, m9⟩ := setTok_row 0 0 ⟨#[]⟩ (.slice none 0 0) ⟨#[]⟩ 0 ROW.out
                  rw [hw9] at r9 m9 ⊢
                  obtain ⟨⟨d0, d1, d2, d3, d4, d5⟩, _⟩ := six_cells r9
                  refine bodyPost_ret (v := .tuple #[tokV 0 0 ⟨#[]⟩ (.slice none 0 0) ⟨#[]⟩ 0, .int .i64 (e0 : Int)]) ?_ rfl ?_
                  · rw [results_cell_tmp rfl]
                    go_simp
                  · rw [HRES.out]
                    exact ⟨rfl, MZ.out.past m9 (Nat.le_refl _)⟩
                | ok x =>
                  obtain ⟨x, i⟩ := x
                  rw [hres] at hpost
                  obtain ⟨pv, he, hpa, hrz⟩ := hpost
                  obtain ⟨q, m, c, rfl⟩ : ∃ q m c, pv = .slice q m c := hpa.form
                  subst he
                  have ROW := Lib.hid hrow
                  have MZ := Lib.hid hmz
                  have HPA := Lib.hid hpa
                  have HRZ := Lib.hid hrz
                  have HRES := Lib.hid (HTOK.out.trans hres)
                  have hlt := S8.out.le
                  have HLT := Lib.hid hlt
                  clear hrow hmz hpa hrz hres hm hlt
                  obtain ⟨⟨c0, c1, c2, c3, c4, c5⟩, ⟨f0, f1, f2, f3, f4, f5⟩⟩ := six_cells ROW.out
                  go_wp2_with (fail)
                  change bodyPost _ _ _ _ _ (setTok wz w.heap.size (x.kind : Int) 0 x.name (.slice q m c) x.text (x.refs : Int))
                  obtain ⟨w9, hw9⟩ : ∃ W, setTok wz w.heap.size (x.kind : Int) 0 x.name (.slice q m c) x.text (x.refs : Int) = W := ⟨_, rfl⟩
                  obtain ⟨r9, m9⟩ := setTok_row (x.kind : Int) 0 x.name (.slice q m c) x.text (x.refs : Int) ROW.out
                  rw [hw9] at r9 m9 ⊢
                  obtain ⟨⟨d0, d1, d2, d3, d4, d5⟩, _⟩ := six_cells r9
                  refine bodyPost_ret (v := .tuple #[tokV (x.kind : Int) 0 x.name (.slice q m c) x.text (x.refs : Int), .int .i64 0]) ?_ rfl ?_
                  · rw [results_cell_tmp rfl]
                    go_simp
                  · rw [HRES.out]
                    have hR := S8.out.lt
                    have hlt := HLT.out
                    exact ⟨⟨.slice q m c, rfl, PairsAt.less (World.ownsRow.kept HPA.out m9 (.inr (HPA.out.ne ROW.out (fun cs e => by injection e with _ e2 _; cases e2)))) (by omega), HRZ.out.past m9 (by omega)⟩, MZ.out.past m9 (Nat.le_refl _)⟩
            · rw [if_pos hs4] at htok
              have hroom : k + 2 ≤ t.size := sees_room hkl hs4
              refine (take_yes t ⟨#[60, 63]⟩ b off cap R k v6 S6.out.rd hkl S6.out.txt (by decide) hs4).mono ?_
              rintro e v7 ⟨rfl, hr, hm⟩
              have S7 := Lib.hid (S6.out.moved hr hm)
              clear hr hm hs4
              have HTOK := Lib.hid htok.symm
              clear htok
              have CX := instr_any t b off cap R (k + 2) w0 v7 S7.out.env S7.out.below S7.out.rd hroom
              have CH := Lib.hid CX
              clear CX
              go_wp2_with (fail)
              refine CH.out.mono ?_
              rintro e wz ⟨hpost, hm⟩
              clear CH
              have hrow := (hm.block _ S7.out.le (fun e => by injection e with e; have := S7.out.lt; omega)).trans S7.out.out
              have hmz := S7.out.mv.trans hm
              cases hres : instrF t (k + 2) with
              | error e0 =>
                rw [hres] at hpost
                have hpe : e = .returned (.tuple #[tokV 0 0 ⟨#[]⟩ (.slice none 0 0) ⟨#[]⟩ 0, .int .i64 (e0 : Int)]) := hpost
                subst hpe
                have ROW := Lib.hid hrow
                have MZ := Lib.hid hmz
                have HRES := Lib.hid (HTOK.out.trans hres)
                clear hrow hmz hpost hres hm
                obtain ⟨⟨c0, c1, c2, c3, c4, c5⟩, ⟨f0, f1, f2, f3, f4, f5⟩⟩ := six_cells ROW.out
                go_wp2_with (fail)
                change bodyPost _ _ _ _ _ (setTok wz w.heap.size 0 0 ⟨#[]⟩ (.slice none 0 0) ⟨#[]⟩ 0)
                obtain ⟨w9, hw9⟩ : ∃ W, setTok wz w.heap.size 0 0 ⟨#[]⟩ (.slice none 0 0) ⟨#[]⟩ 0 = W := ⟨_, rfl⟩
                obtain ⟨r9, m9⟩ := setTok_row 0 0 ⟨#[]⟩ (.slice none 0 0) ⟨#[]⟩ 0 ROW.out
                rw [hw9] at r9 m9 ⊢
                obtain ⟨⟨d0, d1, d2, d3, d4, d5⟩, _⟩ := six_cells r9
                refine bodyPost_ret (v := .tuple #[tokV 0 0 ⟨#[]⟩ (.slice none 0 0) ⟨#[]⟩ 0, .int .i64 (e0 : Int)]) ?_ rfl ?_
                · rw [results_cell_tmp rfl]
                  go_simp
                · rw [HRES.out]
                  exact ⟨rfl, MZ.out.past m9 (Nat.le_refl _)⟩
              | ok x =>
                obtain ⟨x, i⟩ := x
                rw [hres] at hpost
                obtain ⟨pv, he, hpa, hrz⟩ := hpost
                obtain ⟨q, m, c, rfl⟩ : ∃ q m c, pv = .slice q m c := hpa.form
                subst he
                have ROW := Lib.hid hrow
                have MZ := Lib.hid hmz
                have HPA := Lib.hid hpa
                have HRZ := Lib.hid hrz
                have HRES := Lib.hid (HTOK.out.trans hres)
                have hlt := S7.out.le
                have HLT := Lib.hid hlt
                clear hrow hmz hpa hrz hres hm hlt
                obtain ⟨⟨c0, c1, c2, c3, c4, c5⟩, ⟨f0, f1, f2, f3, f4, f5⟩⟩ := six_cells ROW.out
                go_wp2_with (fail)
                change bodyPost _ _ _ _ _ (setTok wz w.heap.size (x.kind : Int) 0 x.name (.slice q m c) x.text (x.refs : Int))
                obtain ⟨w9, hw9⟩ : ∃ W, setTok wz w.heap.size (x.kind : Int) 0 x.name (.slice q m c) x.text (x.refs : Int) = W := ⟨_, rfl⟩
                obtain ⟨r9, m9⟩ := setTok_row (x.kind : Int) 0 x.name (.slice q m c) x.text (x.refs : Int) ROW.out
                rw [hw9] at r9 m9 ⊢
                obtain ⟨⟨d0, d1, d2, d3, d4, d5⟩, _⟩ := six_cells r9
                refine bodyPost_ret (v := .tuple #[tokV (x.kind : Int) 0 x.name (.slice q m c) x.text (x.refs : Int), .int .i64 0]) ?_ rfl ?_
                · rw [results_cell_tmp rfl]
                  go_simp
                · rw [HRES.out]
                  have hR := S7.out.lt
                  have hlt := HLT.out
                  exact ⟨⟨.slice q m c, rfl, PairsAt.less (World.ownsRow.kept HPA.out m9 (.inr (HPA.out.ne ROW.out (fun cs e => by injection e with _ e2 _; cases e2)))) (by omega), HRZ.out.past m9 (by omega)⟩, MZ.out.past m9 (Nat.le_refl _)⟩
          · rw [if_pos hs3] at htok
            have hroom : k + 2 ≤ t.size := sees_room hkl hs3
            refine (take_yes t ⟨#[60, 33]⟩ b off cap R k v5 S5.out.rd hkl S5.out.txt (by decide) hs3).mono ?_
            rintro e v6 ⟨rfl, hr, hm⟩
            have S6 := Lib.hid (S5.out.moved hr hm)
            clear hr hm hs3
            have HTOK := Lib.hid htok.symm
            clear htok
            have ROW := Lib.hid S6.out.out
            have MZ := Lib.hid S6.out.mv
            obtain ⟨⟨c0, c1, c2, c3, c4, c5⟩, ⟨f0, f1, f2, f3, f4, f5⟩⟩ := six_cells ROW.out
            go_wp2_with (fail)
            change bodyPost _ _ _ _ _ (setTok v6 w.heap.size 0 0 ⟨#[]⟩ (.slice none 0 0) ⟨#[]⟩ 0)
            obtain ⟨w9, hw9⟩ : ∃ W, setTok v6 w.heap.size 0 0 ⟨#[]⟩ (.slice none 0 0) ⟨#[]⟩ 0 = W := ⟨_, rfl⟩
            obtain ⟨r9, m9⟩ := setTok_row 0 0 ⟨#[]⟩ (.slice none 0 0) ⟨#[]⟩ 0 ROW.out
            rw [hw9] at r9 m9 ⊢
            obtain ⟨⟨d0, d1, d2, d3, d4, d5⟩, _⟩ := six_cells r9
            refine bodyPost_ret (v := .tuple #[tokV 0 0 ⟨#[]⟩ (.slice none 0 0) ⟨#[]⟩ 0, .int .i64 23]) ?_ rfl ?_
            · rw [results_cell_tmp rfl]
              go_simp
            · rw [HTOK.out]
              exact ⟨rfl, MZ.out.past m9 (Nat.le_refl _)⟩
        · rw [if_pos hs2] at htok
          have hroom : k + 9 ≤ t.size := sees_room hkl hs2
          refine (take_yes t ⟨#[60, 33, 68, 79, 67, 84, 89, 80, 69]⟩ b off cap R k v4 S4.out.rd hkl S4.out.txt (by decide) hs2).mono ?_
          rintro e v5 ⟨rfl, hr, hm⟩
          have S5 := Lib.hid (S4.out.moved hr hm)
          clear hr hm hs2
          have HTOK := Lib.hid htok.symm
          clear htok
          have ROW := Lib.hid S5.out.out
          have MZ := Lib.hid S5.out.mv
          obtain ⟨⟨c0, c1, c2, c3, c4, c5⟩, ⟨f0, f1, f2, f3, f4, f5⟩⟩ := six_cells ROW.out
          go_wp2_with (fail)
          change bodyPost _ _ _ _ _ (setTok v5 w.heap.size 0 0 ⟨#[]⟩ (.slice none 0 0) ⟨#[]⟩ 0)
          obtain ⟨w9, hw9⟩ : ∃ W, setTok v5 w.heap.size 0 0 ⟨#[]⟩ (.slice none 0 0) ⟨#[]⟩ 0 = W := ⟨_, rfl⟩
          obtain ⟨r9, m9⟩ := setTok_row 0 0 ⟨#[]⟩ (.slice none 0 0) ⟨#[]⟩ 0 ROW.out
          rw [hw9] at r9 m9 ⊢
          obtain ⟨⟨d0, d1, d2, d3, d4, d5⟩, _⟩ := six_cells r9
          refine bodyPost_ret (v := .tuple #[tokV 0 0 ⟨#[]⟩ (.slice none 0 0) ⟨#[]⟩ 0, .int .i64 25]) ?_ rfl ?_
          · rw [results_cell_tmp rfl]
            go_simp
          · rw [HTOK.out]
            exact ⟨rfl, MZ.out.past m9 (Nat.le_refl _)⟩
      · rw [if_pos hs1] at htok
        have hroom : k + 9 ≤ t.size := sees_room hkl hs1
        refine (take_yes t ⟨#[60, 33, 91, 67, 68, 65, 84, 65, 91]⟩ b off cap R k v3 S3.out.rd hkl S3.out.txt (by decide) hs1).mono ?_
        rintro e v4 ⟨rfl, hr, hm⟩
        have S4 := Lib.hid (S3.out.moved hr hm)
        clear hr hm hs1
        have HTOK := Lib.hid htok.symm
        clear htok
        have CX := data_any t b off cap R (k + 9) w0 v4 S4.out.env S4.out.below S4.out.rd hroom
        have CH := Lib.hid CX
        clear CX
        go_wp2_with (fail)
        refine CH.out.mono ?_
        rintro e wz ⟨hpost, hm⟩
        clear CH
        have hrow := (hm.block _ S4.out.le (fun e => by injection e with e; have := S4.out.lt; omega)).trans S4.out.out
        have hmz := S4.out.mv.trans hm
        cases hres : dataF t (k + 9) with
        | error e0 =>
          rw [hres] at hpost
          have hpe : e = .returned (.tuple #[tokV 0 0 ⟨#[]⟩ (.slice none 0 0) ⟨#[]⟩ 0, .int .i64 (e0 : Int)]) := hpost
          subst hpe
          have ROW := Lib.hid hrow
          have MZ := Lib.hid hmz
          have HRES := Lib.hid (HTOK.out.trans hres)
          clear hrow hmz hpost hres hm
          obtain ⟨⟨c0, c1, c2, c3, c4, c5⟩, ⟨f0, f1, f2, f3, f4, f5⟩⟩ := six_cells ROW.out
          go_wp2_with (fail)
          change bodyPost _ _ _ _ _ (setTok wz w.heap.size 0 0 ⟨#[]⟩ (.slice none 0 0) ⟨#[]⟩ 0)
          obtain ⟨w9, hw9⟩ : ∃ W, setTok wz w.heap.size 0 0 ⟨#[]⟩ (.slice none 0 0) ⟨#[]⟩ 0 = W := ⟨_, rfl⟩
          obtain ⟨r9, m9⟩ := setTok_row 0 0 ⟨#[]⟩ (.slice none 0 0) ⟨#[]⟩ 0 ROW.out
          rw [hw9] at r9 m9 ⊢
          obtain ⟨⟨d0, d1, d2, d3, d4, d5⟩, _⟩ := six_cells r9
          refine bodyPost_ret (v := .tuple #[tokV 0 0 ⟨#[]⟩ (.slice none 0 0) ⟨#[]⟩ 0, .int .i64 (e0 : Int)]) ?_ rfl ?_
          · rw [results_cell_tmp rfl]
            go_simp
          · rw [HRES.out]
            exact ⟨rfl, MZ.out.past m9 (Nat.le_refl _)⟩
        | ok x =>
          obtain ⟨x, i⟩ := x
          rw [hres] at hpost
          obtain ⟨pv, he, hpa, hrz⟩ := hpost
          obtain ⟨q, m, c, rfl⟩ : ∃ q m c, pv = .slice q m c := hpa.form
          subst he
          have ROW := Lib.hid hrow
          have MZ := Lib.hid hmz
          have HPA := Lib.hid hpa
          have HRZ := Lib.hid hrz
          have HRES := Lib.hid (HTOK.out.trans hres)
          have hlt := S4.out.le
          have HLT := Lib.hid hlt
          clear hrow hmz hpa hrz hres hm hlt
          obtain ⟨⟨c0, c1, c2, c3, c4, c5⟩, ⟨f0, f1, f2, f3, f4, f5⟩⟩ := six_cells ROW.out
          go_wp2_with (fail)
          change bodyPost _ _ _ _ _ (setTok wz w.heap.size (x.kind : Int) 0 x.name (.slice q m c) x.text (x.refs : Int))
          obtain ⟨w9, hw9⟩ : ∃ W, setTok wz w.heap.size (x.kind : Int) 0 x.name (.slice q m c) x.text (x.refs : Int) = W := ⟨_, rfl⟩
          obtain ⟨r9, m9⟩ := setTok_row (x.kind : Int) 0 x.name (.slice q m c) x.text (x.refs : Int) ROW.out
          rw [hw9] at r9 m9 ⊢
          obtain ⟨⟨d0, d1, d2, d3, d4, d5⟩, _⟩ := six_cells r9
          refine bodyPost_ret (v := .tuple #[tokV (x.kind : Int) 0 x.name (.slice q m c) x.text (x.refs : Int), .int .i64 0]) ?_ rfl ?_
          · rw [results_cell_tmp rfl]
            go_simp
          · rw [HRES.out]
            have hR := S4.out.lt
            have hlt := HLT.out
            exact ⟨⟨.slice q m c, rfl, PairsAt.less (World.ownsRow.kept HPA.out m9 (.inr (HPA.out.ne ROW.out (fun cs e => by injection e with _ e2 _; cases e2)))) (by omega), HRZ.out.past m9 (by omega)⟩, MZ.out.past m9 (Nat.le_refl _)⟩
    · rw [if_pos hs0] at htok
      have hroom : k + 4 ≤ t.size := sees_room hkl hs0
      refine (take_yes t ⟨#[60, 33, 45, 45]⟩ b off cap R k w2 S2.out.rd hkl S2.out.txt (by decide) hs0).mono ?_
      rintro e v3 ⟨rfl, hr, hm⟩
      have S3 := Lib.hid (S2.out.moved hr hm)
      clear hr hm hs0
      have HTOK := Lib.hid htok.symm
      clear htok
      have CX := comment_any t b off cap R (k + 4) w0 v3 S3.out.env S3.out.below S3.out.rd hroom
      have CH := Lib.hid CX
      clear CX
      go_wp2_with (fail)
      refine CH.out.mono ?_
      rintro e wz ⟨hpost, hm⟩
      clear CH
      have hrow := (hm.block _ S3.out.le (fun e => by injection e with e; have := S3.out.lt; omega)).trans S3.out.out
      have hmz := S3.out.mv.trans hm
      cases hres : commentF t (k + 4) with
      | error e0 =>
        rw [hres] at hpost
        have hpe : e = .returned (.tuple #[tokV 0 0 ⟨#[]⟩ (.slice none 0 0) ⟨#[]⟩ 0, .int .i64 (e0 : Int)]) := hpost
        subst hpe
        have ROW := Lib.hid hrow
        have MZ := Lib.hid hmz
        have HRES := Lib.hid (HTOK.out.trans hres)
        clear hrow hmz hpost hres hm
        obtain ⟨⟨c0, c1, c2, c3, c4, c5⟩, ⟨f0, f1, f2, f3, f4, f5⟩⟩ := six_cells ROW.out
        go_wp2_with (fail)
        change bodyPost _ _ _ _ _ (setTok wz w.heap.size 0 0 ⟨#[]⟩ (.slice none 0 0) ⟨#[]⟩ 0)
        obtain ⟨w9, hw9⟩ : ∃ W, setTok wz w.heap.size 0 0 ⟨#[]⟩ (.slice none 0 0) ⟨#[]⟩ 0 = W := ⟨_, rfl⟩
        obtain ⟨r9, m9⟩ := setTok_row 0 0 ⟨#[]⟩ (.slice none 0 0) ⟨#[]⟩ 0 ROW.out
        rw [hw9] at r9 m9 ⊢
        obtain ⟨⟨d0, d1, d2, d3, d4, d5⟩, _⟩ := six_cells r9
        refine bodyPost_ret (v := .tuple #[tokV 0 0 ⟨#[]⟩ (.slice none 0 0) ⟨#[]⟩ 0, .int .i64 (e0 : Int)]) ?_ rfl ?_
        · rw [results_cell_tmp rfl]
          go_simp
        · rw [HRES.out]
          exact ⟨rfl, MZ.out.past m9 (Nat.le_refl _)⟩
      | ok x =>
        obtain ⟨x, i⟩ := x
        rw [hres] at hpost
        obtain ⟨pv, he, hpa, hrz⟩ := hpost
        obtain ⟨q, m, c, rfl⟩ : ∃ q m c, pv = .slice q m c := hpa.form
        subst he
        have ROW := Lib.hid hrow
        have MZ := Lib.hid hmz
        have HPA := Lib.hid hpa
        have HRZ := Lib.hid hrz
        have HRES := Lib.hid (HTOK.out.trans hres)
        have hlt := S3.out.le
        have HLT := Lib.hid hlt
        clear hrow hmz hpa hrz hres hm hlt
        obtain ⟨⟨c0, c1, c2, c3, c4, c5⟩, ⟨f0, f1, f2, f3, f4, f5⟩⟩ := six_cells ROW.out
        go_wp2_with (fail)
        change bodyPost _ _ _ _ _ (setTok wz w.heap.size (x.kind : Int) 0 x.name (.slice q m c) x.text (x.refs : Int))
        obtain ⟨w9, hw9⟩ : ∃ W, setTok wz w.heap.size (x.kind : Int) 0 x.name (.slice q m c) x.text (x.refs : Int) = W := ⟨_, rfl⟩
        obtain ⟨r9, m9⟩ := setTok_row (x.kind : Int) 0 x.name (.slice q m c) x.text (x.refs : Int) ROW.out
        rw [hw9] at r9 m9 ⊢
        obtain ⟨⟨d0, d1, d2, d3, d4, d5⟩, _⟩ := six_cells r9
        refine bodyPost_ret (v := .tuple #[tokV (x.kind : Int) 0 x.name (.slice q m c) x.text (x.refs : Int), .int .i64 0]) ?_ rfl ?_
        · rw [results_cell_tmp rfl]
          go_simp
        · rw [HRES.out]
          have hR := S3.out.lt
          have hlt := HLT.out
          exact ⟨⟨.slice q m c, rfl, PairsAt.less (World.ownsRow.kept HPA.out m9 (.inr (HPA.out.ne ROW.out (fun cs e => by injection e with _ e2 _; cases e2)))) (by omega), HRZ.out.past m9 (by omega)⟩, MZ.out.past m9 (Nat.le_refl _)⟩
  · have hk0 : seesB t k [60, 63, 120, 109, 108] = true := by
      unfold opensB at ho
      simp only [Bool.and_eq_true, decide_eq_true_eq] at ho
      rw [ho.1.1.1]
      exact ho.1.1.2
    rw [if_pos ho] at htok
    have HTOK := Lib.hid htok.symm
    clear htok ho
    have CX := declaration_any t b off cap R k w0 w2 S2.out.env S2.out.below S2.out.rd hkl hk0
    have CH := Lib.hid CX
    clear CX
    go_wp2_with (fail)
    refine CH.out.mono ?_
    rintro e wz ⟨hpost, hm⟩
    clear CH
    have hrow := (hm.block _ S2.out.le (fun e => by injection e with e; have := S2.out.lt; omega)).trans S2.out.out
    have hmz := S2.out.mv.trans hm
    cases hres : declF t (k + 5) with
    | error e0 =>
      rw [hres] at hpost
      have hpe : e = .returned (.tuple #[tokV 0 0 ⟨#[]⟩ (.slice none 0 0) ⟨#[]⟩ 0, .int .i64 (e0 : Int)]) := hpost
      subst hpe
      have ROW := Lib.hid hrow
      have MZ := Lib.hid hmz
      have HRES := Lib.hid (HTOK.out.trans hres)
      clear hrow hmz hpost hres hm
      obtain ⟨⟨c0, c1, c2, c3, c4, c5⟩, ⟨f0, f1, f2, f3, f4, f5⟩⟩ := six_cells ROW.out
      go_wp2_with (fail)
      change bodyPost _ _ _ _ _ (setTok wz w.heap.size 0 0 ⟨#[]⟩ (.slice none 0 0) ⟨#[]⟩ 0)
      obtain ⟨w9, hw9⟩ : ∃ W, setTok wz w.heap.size 0 0 ⟨#[]⟩ (.slice none 0 0) ⟨#[]⟩ 0 = W := ⟨_, rfl⟩
      obtain ⟨r9, m9⟩ := setTok_row 0 0 ⟨#[]⟩ (.slice none 0 0) ⟨#[]⟩ 0 ROW.out
      rw [hw9] at r9 m9 ⊢
      obtain ⟨⟨d0, d1, d2, d3, d4, d5⟩, _⟩ := six_cells r9
      refine bodyPost_ret (v := .tuple #[tokV 0 0 ⟨#[]⟩ (.slice none 0 0) ⟨#[]⟩ 0, .int .i64 (e0 : Int)]) ?_ rfl ?_
      · rw [results_cell_tmp rfl]
        go_simp
      · rw [HRES.out]
        exact ⟨rfl, MZ.out.past m9 (Nat.le_refl _)⟩
    | ok x =>
      obtain ⟨x, i⟩ := x
      rw [hres] at hpost
      obtain ⟨pv, he, hpa, hrz⟩ := hpost
      obtain ⟨q, m, c, rfl⟩ : ∃ q m c, pv = .slice q m c := hpa.form
      subst he
      have ROW := Lib.hid hrow
      have MZ := Lib.hid hmz
      have HPA := Lib.hid hpa
      have HRZ := Lib.hid hrz
      have HRES := Lib.hid (HTOK.out.trans hres)
      have hlt := S2.out.le
      have HLT := Lib.hid hlt
      clear hrow hmz hpa hrz hres hm hlt
      obtain ⟨⟨c0, c1, c2, c3, c4, c5⟩, ⟨f0, f1, f2, f3, f4, f5⟩⟩ := six_cells ROW.out
      go_wp2_with (fail)
      change bodyPost _ _ _ _ _ (setTok wz w.heap.size (x.kind : Int) 0 x.name (.slice q m c) x.text (x.refs : Int))
      obtain ⟨w9, hw9⟩ : ∃ W, setTok wz w.heap.size (x.kind : Int) 0 x.name (.slice q m c) x.text (x.refs : Int) = W := ⟨_, rfl⟩
      obtain ⟨r9, m9⟩ := setTok_row (x.kind : Int) 0 x.name (.slice q m c) x.text (x.refs : Int) ROW.out
      rw [hw9] at r9 m9 ⊢
      obtain ⟨⟨d0, d1, d2, d3, d4, d5⟩, _⟩ := six_cells r9
      refine bodyPost_ret (v := .tuple #[tokV (x.kind : Int) 0 x.name (.slice q m c) x.text (x.refs : Int), .int .i64 0]) ?_ rfl ?_
      · rw [results_cell_tmp rfl]
        go_simp
      · rw [HRES.out]
        have hR := S2.out.lt
        have hlt := HLT.out
        exact ⟨⟨.slice q m c, rfl, PairsAt.less (World.ownsRow.kept HPA.out m9 (.inr (HPA.out.ne ROW.out (fun cs e => by injection e with _ e2 _; cases e2)))) (by omega), HRZ.out.past m9 (by omega)⟩, MZ.out.past m9 (Nat.le_refl _)⟩
end Go.Proofs.YteipiaefamfleaaGreatDoor
namespace Go.Proofs.YteipiaefamfleaaGreatDoor
open Go.RowKit

/-- A token's cells. -/
def tokC (x : Nat × Tok) (pv : Value) : List Value := [.int .i64 (x.2.kind : Int), .int .i64 (x.1 : Int), .string x.2.name, pv, .string x.2.text, .int .i64 (x.2.refs : Int)]
def tokCs (l : List (Nat × Tok)) (pvs : List Value) : List Value := (l.zip pvs).flatMap fun z => tokC z.1 z.2
/-- Tokens as they lie in rows of the call's own. -/
def TokL (w : World) (B : Nat) (v : Value) (l : List (Nat × Tok)) : Prop := ∃ pvs : List Value, pvs.length = l.length ∧ w.ownsRow B 31 6 v l.length (tokCs l pvs) ∧ ∀ z ∈ l.zip pvs, PairsAt w B z.2 z.1.2.pairs
theorem TokL.nil (w : World) (B : Nat) : TokL w B (.slice none 0 0) [] := ⟨[], rfl, World.ownsRow_nil w B _ 6, fun z h => by cases h⟩
theorem TokL.form {w : World} {B : Nat} {v : Value} {l : List (Nat × Tok)} (h : TokL w B v l) : ∃ q m c, v = .slice q m c := by
  obtain ⟨pvs, _, h2, _⟩ := h
  rcases h2.2 with ⟨rfl, _⟩ | ⟨g, c, cur, rfl, _⟩
  · exact ⟨_, _, _, rfl⟩
  · exact ⟨_, _, _, rfl⟩
theorem TokL.keep2 {w w' : World} {B : Nat} {v : Value} {l : List (Nat × Tok)} {row : Option Nat} (h : TokL w B v l) (g : w.grownBy w' row) (hv : v.ownBlock = none ∨ v.ownBlock ≠ row) (hr : ∀ k, row = some k → ∃ o, w.heap[k]? = some o ∧ (∀ cs, o ≠ .cells cs 44 (0, 0))) : TokL w' B v l := by
  obtain ⟨pvs, h1, h2, h3⟩ := h
  refine ⟨pvs, h1, h2.kept g hv, fun z hz => World.ownsRow.kept (h3 z hz) g ?_⟩
  cases hz2 : z.2.ownBlock with
  | none => exact .inl rfl
  | some k =>
    refine .inr fun e => ?_
    obtain ⟨o, ho, hn⟩ := hr k e.symm
    exact (h3 z hz).ne ho hn hz2
theorem TokL.blk {w : World} {B : Nat} {v : Value} {l : List (Nat × Tok)} (h : TokL w B v l) : ∀ k, v.ownBlock = some k → ∃ cs, w.heap[k]? = some (.cells cs 31) ∧ B ≤ k := by
  obtain ⟨pvs, h1, h2, h3⟩ := h
  intro k hk
  rcases h2.2 with ⟨rfl, _⟩ | ⟨g', c', cur, rfl, hb, hh, _⟩
  · simp [Value.ownBlock] at hk
  · have e2 : g' = k := by simpa [Value.ownBlock] using hk
    subst e2
    exact ⟨cur, hh, hb⟩
theorem TokL.keep {w w' : World} {B : Nat} {v : Value} {l : List (Nat × Tok)} {row : Option Nat} (h : TokL w B v l) (g : w.grownBy w' row) (hr : ∀ k, row = some k → ∃ o, w.heap[k]? = some o ∧ (∀ cs, o ≠ .cells cs 44 (0, 0)) ∧ (∀ cs, o ≠ .cells cs 31 (0, 0))) : TokL w' B v l := by
  refine h.keep2 g ?_ (fun k e => (hr k e).imp fun o ho => ⟨ho.1, ho.2.1⟩)
  cases hv : v.ownBlock with
  | none => exact .inl rfl
  | some k =>
    refine .inr fun e => ?_
    obtain ⟨o, ho, _, hn⟩ := hr k e.symm
    obtain ⟨cs, hc, _⟩ := h.blk k hv
    rw [hc] at ho
    injection ho with ho
    exact hn cs ho.symm
theorem infoTok : (Tryz.prog.info? 31).map (fun i => (i.zero, i.size, i.bytes)) = some (some (.agg #[.int .i64 0, .int .i64 0, .string ⟨#[]⟩, .slice none 0 0, .string ⟨#[]⟩, .int .i64 0]), 6, 80) := by kernel_rfl
/-- One token more. -/
theorem append_tok {w : World} {B g : Nat} {v : Value} {l : List (Nat × Tok)} {x : Nat × Tok} {q : Option Addr} {m c : Nat} (h : TokL w B v l) (hp : PairsAt w B (.slice q m c) x.2.pairs) (hg : w.heap[g]? = some (.cells #[.int .i64 (x.2.kind : Int), .int .i64 (x.1 : Int), .string x.2.name, .slice q m c, .string x.2.text, .int .i64 (x.2.refs : Int)] 31)) (hB : B ≤ w.heap.size) (hl : l.length ≤ 4194304) :
    ∃ v' w', (∀ ty, (Builtin.append_ #[24, 24] ty #[v, .slice (some ⟨g, 0, none⟩) 1 1]).run Tryz.prog w = .ok v' w') ∧ TokL w' B v' (l ++ [x]) ∧ w.grownBy w' v.ownBlock ∧ (∀ k, v.ownBlock = some k → ∃ cs, w.heap[k]? = some (.cells cs 31) ∧ B ≤ k) := by
  obtain ⟨i0, hi, hz0, hz1, hz2⟩ := info_parts infoTok
  obtain ⟨pvs, h1, h2, h3⟩ := h
  have hcells : ∀ j u, (tokC x (.slice q m c))[j]? = some u → w.cell? ((⟨g, 0, none⟩ : Addr).add j) = some u := by
    intro j u hu
    have ha : (⟨g, 0, none⟩ : Addr).add j = ⟨g, j, none⟩ := by unfold Addr.add; split <;> simp_all
    rw [ha, cell_of_row _ _ _ _ _ _ hg, ← hu]
    unfold tokC
    simp
  have hone : ∀ u ∈ tokC x (.slice q m c), u.oneCell' = true := by
    intro u hu
    simp only [tokC, List.mem_cons, List.mem_nil_iff, or_false] at hu
    rcases hu with rfl | rfl | rfl | rfl | rfl | rfl <;> rfl
  obtain ⟨v', w', hrun, hown, hgrow, _⟩ := run_append_own (P := Tryz.prog) (w := w) B 24 24 31 i0 (.agg #[.int .i64 0, .int .i64 0, .string ⟨#[]⟩, .slice none 0 0, .string ⟨#[]⟩, .int .i64 0]) 6 80 Tryz.underlying24 hi hz0 hz1 hz2 rfl (by decide) v l.length (tokCs l pvs) h2 ⟨g, 0, none⟩ 1 1 (tokC x (.slice q m c)) rfl hcells hone (by unfold maxLen; omega) (by omega) hB
  have hblk : ∀ k, v.ownBlock = some k → ∃ cs, w.heap[k]? = some (.cells cs 31) ∧ B ≤ k := by
    intro k hk
    rcases h2.2 with ⟨rfl, _⟩ | ⟨g', c', cur, rfl, hb, hh, _⟩
    · simp [Value.ownBlock] at hk
    · have e2 : g' = k := by simpa [Value.ownBlock] using hk
      subst e2
      exact ⟨cur, hh, hb⟩
  have hzip : (l ++ [x]).zip (pvs ++ [.slice q m c]) = l.zip pvs ++ [(x, .slice q m c)] := by
    rw [List.zip_append h1.symm]
    rfl
  have hpk : ∀ b' l', PairsAt w B b' l' → PairsAt w' B b' l' := fun b' l' hh => World.ownsRow.kept hh hgrow (by
    cases hv : v.ownBlock with
    | none => cases b'.ownBlock <;> simp
    | some k =>
      obtain ⟨cs, hk, _⟩ := hblk k hv
      exact .inr (hh.ne hk (fun cs e => by injection e with _ e2 _; cases e2)))
  refine ⟨v', w', fun ty => ?_, ⟨pvs ++ [.slice q m c], by simp [h1], ?_, ?_⟩, hgrow, hblk⟩
  · rw [← hrun]
    rfl
  · unfold tokCs
    rw [hzip, List.flatMap_append, List.length_append]
    simpa [tokCs] using hown
  · intro z hz
    rw [hzip] at hz
    rcases List.mem_append.1 hz with hz | hz
    · exact hpk _ _ (h3 z hz)
    · obtain rfl := List.mem_singleton.1 hz
      exact hpk _ _ hp
def ToksPost (w : World) (r : Except (Nat × Nat) (List (Nat × Tok))) (e : Ending) (w' : World) : Prop := match r with
  | .ok l => ∃ v, e = .returned (.tuple #[v, .int .i64 0, .int .i64 0]) ∧ TokL w' w.heap.size v l
  | .error (k, e0) => e = .returned (.tuple #[.slice none 0 0, .int .i64 (k : Int), .int .i64 (e0 : Int)])
/-- What holds at the label. -/
def ToksJ (t : ByteArray) (b off cap : Nat) (res : Except (Nat × Nat) (List (Nat × Tok))) (w : World) (a' : Act) (W : World) : Prop := ∃ (u1 u7 u8 u9 u10 u11 u12 u13 u14 u15 u16 u17 u18 u19 u20 u21 u22 u23 u24 u25 u26 u27 u28 u29 : Value) (v : Value) (j f : Nat) (l : List (Nat × Tok)), a' = { tmps := #[rv b off cap t, u1, .slice none 0 0, .int .i64 0, .int .i64 0, v, .pointer (some ⟨w.heap.size, 0, none⟩), u7, u8, u9, u10, u11, u12, u13, u14, u15, u16, u17, u18, u19, u20, u21, u22, u23, u24, u25, u26, u27, u28, u29], defers := [] } ∧ Rd W w.heap.size (rv b off cap t) j ∧ Below w.heap.size w W ∧ TokL W (w.heap.size + 1) v l ∧ j ≤ t.size ∧ l.length ≤ j ∧ t.size ≤ j + f ∧ toksGo t f j l = res
theorem tag_err_ne (t n : ByteArray) : ∀ f k ps e, k ≤ t.size → t.size < k + f → tagGo t n f k ps = .error e → e ≠ 0
  | 0, k, ps, e, hk, hf, _ => by omega
  | f + 1, k, ps, e, hk, hf, h => by
    have hg := white_ge t k
    unfold tagGo at h
    split at h
    · cases h
    split at h
    · cases h
    split at h
    · injection h with h
      omega
    split at h
    · rename_i hp
      injection h with h
      have := pair_err_ne hp
      omega
    · rename_i p i hp
      have hb := pair_bd hp
      split at h
      · injection h with h
        omega
      · exact tag_err_ne t n f i (ps ++ [p]) e hb.2.1 (by omega) h
theorem tok_err_ne {t : ByteArray} {k e : Nat} (_hk : k < t.size) (h : tokF t k = .error e) : e ≠ 0 := by
  have fin : ∀ c : Nat, c ≠ 0 → ∀ {r : Tok × Nat}, (Except.error c : Except Nat (Tok × Nat)) = .error e → e ≠ 0 := by
    intro c hc r g
    injection g with g
    omega
  unfold tokF at h
  split at h
  · unfold declF declAlone declEnd at h
    repeat' split at h
    all_goals first
      | (cases h; done)
      | (injection h with h; omega)
  split at h
  · unfold commentF at h
    repeat' split at h
    all_goals first
      | (cases h; done)
      | (injection h with h; omega)
  split at h
  · unfold dataF at h
    repeat' split at h
    all_goals first
      | (cases h; done)
      | (injection h with h; omega)
  split at h
  · injection h with h
    omega
  split at h
  · injection h with h
    omega
  split at h
  · unfold instrF at h
    split at h
    · rename_i hn
      injection h with h
      have := name_err hn
      omega
    · repeat' split at h
      all_goals first
        | (cases h; done)
        | (injection h with h; omega)
  split at h
  · unfold closingF at h
    split at h
    · rename_i hn
      injection h with h
      rcases qual_err hn with g | g <;> omega
    · split at h
      · cases h
      · injection h with h
        omega
  split at h
  · unfold tagF at h
    split at h
    · rename_i hn
      injection h with h
      rcases qual_err hn with g | g <;> omega
    · rename_i n i hn
      have hi := (name_ok (qual_ok hn).1).2.1
      exact tag_err_ne t n _ i [] e hi (by omega) h
  · unfold charsF at h
    simp only at h
    split at h
    · cases h
    · rename_i hr
      injection h with h
      have := readT_nn (t.extract k (charsTo t k))
      omega
theorem TokL.less {w : World} {B B' : Nat} {v : Value} {l : List (Nat × Tok)} (h : TokL w B v l) (hB : B' ≤ B) : TokL w B' v l := by
  obtain ⟨pvs, h1, h2, h3⟩ := h
  refine ⟨pvs, h1, ⟨h2.1, ?_⟩, fun z hz => (h3 z hz).less hB⟩
  rcases h2.2 with g | ⟨g, c, cur, e, h4, r⟩
  · exact .inl g
  · exact .inr ⟨g, c, cur, e, Nat.le_trans hB h4, r⟩
set_option maxRecDepth 100000 in
set_option maxHeartbeats 16000000 in
theorem tokens_any (t : ByteArray) (b off cap : Nat) (w : World) (E : Env w w.heap.size b off cap t) (res : Except (Nat × Nat) (List (Nat × Tok))) (hr0 : toksF t = res) :
    Calls Tryz.prog 12 #[rv b off cap t] w fun e w' => ToksPost w res e w' ∧ Below w.heap.size w w' := by
  have HE := Lib.hid E
  clear E
  go_enter Tryz.func12, Tryz.ntmps12
  go_wp2_with (fail)
  refine wp_scope_jumps2 0 (ToksJ t b off cap res w) (fun _ W => t.size - placeOf W w.heap.size) rfl ?_ ?_
  · rintro a9 W ⟨u1, u7, u8, u9, u10, u11, u12, u13, u14, u15, u16, u17, u18, u19, u20, u21, u22, u23, u24, u25, u26, u27, u28, u29, v, j, f, l, rfl, hrd, hbw, hl, hj, hlj, hf, hgo⟩
    obtain ⟨q, m, c, rfl⟩ := hl.form
    have hpl := hrd.placeOf
    have EN := Lib.hid (fun W g => ended_any w.heap.size cap t.size j (some ⟨b, off, none⟩) W g)
    have h0 := hrd.text
    have h1 := hrd.place
    have HG := Lib.hid (And.intro hrd (And.intro hbw (And.intro hl (And.intro hlj (And.intro hf (And.intro hgo hpl))))))
    clear hrd hbw hl hlj hf hgo hpl
    by_cases hlt : j < t.size
    · have he : ((j : Int) == (t.size : Int)) = false := by rw [beq_eq_false_iff_ne]; omega
      rw [he] at EN
      clear he
      obtain ⟨f, rfl⟩ : ∃ f1, f = f1 + 1 := ⟨f - 1, by have := HG.out.2.2.2.2.1; omega⟩
      have hgo2 := HG.out.2.2.2.2.2.1
      unfold toksGo at hgo2
      rw [if_pos hlt] at hgo2
      have HLT := Lib.hid hlt
      clear hlt
      go_wp2_with (fail)
      refine (EN.out W HG.out.1).mono ?_
      rintro e w2 ⟨rfl, qn, hq⟩
      have hd : Below W.heap.size W w2 := by rw [hq]; exact ⟨rfl, rfl, rfl, Nat.le_refl _, fun _ _ => rfl⟩
      clear hq h0 h1
      have rd2 := HG.out.1.below hd
      have b2 := below_cat HG.out.2.1 hd
      have l2 := HG.out.2.2.1.keep (row := none) ⟨hd.os, hd.tape, hd.output, hd.size, fun k hk _ => hd.block k hk⟩ (fun k e => by cases e)
      have h1 := rd2.place
      have H2 := Lib.hid (And.intro rd2 (And.intro b2 l2))
      clear rd2 b2 l2 hd
      have TX := token_any t b off cap w.heap.size j w w2 HE.out H2.out.2.1 H2.out.1 hj HLT.out
      have TH := Lib.hid TX
      clear TX
      go_wp2_with (fail)
      refine TH.out.mono ?_
      rintro e w3 ⟨hpost, hm⟩
      clear TH h1
      cases hres : tokF t j with
      | error e0 =>
        rw [hres] at hpost hgo2
        simp only at hgo2
        have hpe : e = .returned (.tuple #[tokV 0 0 ⟨#[]⟩ (.slice none 0 0) ⟨#[]⟩ 0, .int .i64 (e0 : Int)]) := hpost
        subst hpe
        have hne := tok_err_ne HLT.out hres
        have hnb : ((e0 : Int) == 0) = false := by rw [beq_eq_false_iff_ne]; omega
        have hnz : ¬ (e0 : Int) = 0 := by omega
        have HRES := Lib.hid hgo2
        have HB3 := Lib.hid (HE.out.go H2.out.2.1 hm)
        clear hpost hgo2 hres hne hm
        go_wp2_with (fail)
        simp only [Exit.jump]
        go_ret3
        rw [← HRES.out]
        exact ⟨rfl, HB3.out.trans (((Below.refl _ _).alloc (Nat.le_refl _) _).mono HB3.out.size)⟩
      | ok x =>
        obtain ⟨x, i⟩ := x
        rw [hres] at hpost hgo2
        simp only at hgo2
        obtain ⟨pv, he, hpa, hrz⟩ := hpost
        obtain ⟨qp, mp, cp, rfl⟩ : ∃ q m c, pv = .slice q m c := hpa.form
        subst he
        have hok := tok_ok HLT.out hres
        have hR : w.heap.size < w2.heap.size := (Array.getElem?_eq_some_iff.1 H2.out.1).1
        have b3 := HE.out.go H2.out.2.1 hm
        have l3 := H2.out.2.2.keep hm (fun k e => by injection e with e; subst e; exact ⟨_, H2.out.1, fun cs e => (by injection e with _ e2 _; cases e2), fun cs e => (by injection e with _ e2 _; cases e2)⟩)
        have p3 := hpa.less (B' := w.heap.size + 1) (by omega)
        have H3 := Lib.hid (And.intro hrz (And.intro b3 (And.intro l3 p3)))
        have HOK := Lib.hid (And.intro hok.1 hok.2.1)
        have HRES := Lib.hid hgo2
        clear hpa hrz hm hok b3 l3 p3 hgo2 hres hR
        go_upto_region 7 with fail
        obtain ⟨W4, hW4⟩ : ∃ W, w3.alloc (.cells #[.int .i64 (x.kind : Int), .int .i64 0, .string x.name, .slice qp mp cp, .string x.text, .int .i64 (x.refs : Int)] 31) = W := ⟨_, rfl⟩
        have r4 := heap_alloc_new w3 (.cells #[.int .i64 (x.kind : Int), .int .i64 0, .string x.name, .slice qp mp cp, .string x.text, .int .i64 (x.refs : Int)] 31)
        have bb4 : Below w3.heap.size w3 (w3.alloc (.cells #[.int .i64 (x.kind : Int), .int .i64 0, .string x.name, .slice qp mp cp, .string x.text, .int .i64 (x.refs : Int)] 31)) := (Below.refl _ _).alloc (Nat.le_refl _) _
        rw [hW4] at r4 bb4 ⊢
        clear hW4
        have rd4 := H3.out.1.below bb4
        have b4 := below_cat H3.out.2.1 bb4
        have l4 := H3.out.2.2.1.keep (row := none) ⟨bb4.os, bb4.tape, bb4.output, bb4.size, fun k hk _ => bb4.block k hk⟩ (fun k e => by cases e)
        have p4 : PairsAt W4 (w.heap.size + 1) (.slice qp mp cp) x.pairs := World.ownsRow.kept (row := none) H3.out.2.2.2 ⟨bb4.os, bb4.tape, bb4.output, bb4.size, fun k hk _ => bb4.block k hk⟩ (by cases (Value.slice qp mp cp).ownBlock <;> simp)
        obtain ⟨r5, g5⟩ := setCell_row (k := 1) (.int .i64 (j : Int)) r4
        obtain ⟨⟨c0, c1, c2, c3, c4, c5⟩, ⟨f0, f1, f2, f3, f4, f5⟩⟩ := six_cells r4
        have hzz : w.heap.size < w3.heap.size := (Array.getElem?_eq_some_iff.1 H3.out.1).1
        go_upto_region 10 with fail
        obtain ⟨W5, hW5⟩ : ∃ W, W4.setCell ⟨w3.heap.size, 1, none⟩ (.int .i64 (j : Int)) = W := ⟨_, rfl⟩
        rw [hW5] at r5 g5 ⊢
        clear hW5 c0 c1 c2 c3 c4 c5 f0 f1 f2 f3 f4 f5
        have rd5 := rd4.past g5 (by omega)
        have b5 : Below w.heap.size w W5 := ⟨g5.os.trans b4.os, g5.tape.trans b4.tape, g5.output.trans b4.output, Nat.le_trans b4.size g5.size, fun k hk => (g5.block k (Nat.lt_of_lt_of_le hk b4.size) (fun e => by injection e with e; omega)).trans (b4.block k hk)⟩
        have hlt4 : ∀ k, (Value.slice q m c).ownBlock = some k → k < w3.heap.size := fun k hk => by
          obtain ⟨cs, hc, _⟩ := H3.out.2.2.1.blk k hk
          exact (Array.getElem?_eq_some_iff.1 hc).1
        have l5 := l4.keep2 g5 (by
          cases hv : (Value.slice q m c).ownBlock with
          | none => exact .inl rfl
          | some k =>
            refine .inr fun e => ?_
            injection e with e
            have := hlt4 k hv
            omega) (fun k e => by injection e with e; subst e; exact ⟨_, r4, fun cs e => (by injection e with _ e2 _; cases e2)⟩)
        have p5 : PairsAt W5 (w.heap.size + 1) (.slice qp mp cp) x.pairs := World.ownsRow.kept p4 g5 (.inr (p4.ne r4 (fun cs e => by injection e with _ e2 _; cases e2)))
        have bb6 : Below W5.heap.size W5 (W5.alloc (.cells #[.int .i64 (x.kind : Int), .int .i64 (j : Int), .string x.name, .slice qp mp cp, .string x.text, .int .i64 (x.refs : Int)] 31)) := (Below.refl _ _).alloc (Nat.le_refl _) _
        have gg6 : W5.grownBy (W5.alloc (.cells #[.int .i64 (x.kind : Int), .int .i64 (j : Int), .string x.name, .slice qp mp cp, .string x.text, .int .i64 (x.refs : Int)] 31)) none := ⟨bb6.os, bb6.tape, bb6.output, bb6.size, fun k hk _ => bb6.block k hk⟩
        have l6 := l5.keep (row := none) gg6 (fun k e => by cases e)
        have p6 : PairsAt (W5.alloc (.cells #[.int .i64 (x.kind : Int), .int .i64 (j : Int), .string x.name, .slice qp mp cp, .string x.text, .int .i64 (x.refs : Int)] 31)) (w.heap.size + 1) (.slice qp mp cp) x.pairs := World.ownsRow.kept (row := none) p5 gg6 (by cases (Value.slice qp mp cp).ownBlock <;> simp)
        have rd6 := rd5.below bb6
        have b6 := below_cat b5 bb6
        obtain ⟨v', w7, hrun, l7, g7, hblk⟩ := append_tok (x := (j, x)) l6 p6 (heap_alloc_new W5 (.cells #[.int .i64 (x.kind : Int), .int .i64 (j : Int), .string x.name, .slice qp mp cp, .string x.text, .int .i64 (x.refs : Int)] 31)) (by have := b6.size; have := bb6.size; have := b5.size; have := rd6; have hh := (Array.getElem?_eq_some_iff.1 rd6).1; omega) (by have h1 := HG.out.2.2.2.1; have h2 := HE.out.txt.small; omega)
        have rd7 : Rd w7 w.heap.size (rv b off cap t) i := by
          have hh := (Array.getElem?_eq_some_iff.1 rd6).1
          have h6 := rd6
          unfold Rd at h6 ⊢
          rw [g7.block _ hh (fun e => by
            obtain ⟨cs, hc, hB⟩ := hblk _ e.symm
            omega)]
          exact h6
        have b7 : Below w.heap.size w w7 := ⟨g7.os.trans b6.os, g7.tape.trans b6.tape, g7.output.trans b6.output, Nat.le_trans b6.size g7.size, fun k hk => (g7.block k (Nat.lt_of_lt_of_le hk b6.size) (fun e => by
          obtain ⟨cs, hc, hB⟩ := hblk _ e.symm
          omega)).trans (b6.block k hk)⟩
        have RUN := Lib.hid hrun
        have H7 := Lib.hid (And.intro rd7 (And.intro b7 l7))
        obtain ⟨⟨c0, c1, c2, c3, c4, c5⟩, _⟩ := six_cells r5
        clear rd4 b4 rd5 b5 hzz bb4 hlt4 l4 l5 p4 p5 bb6 gg6 l6 p6 rd6 b6 hrun l7 g7 hblk rd7 b7 r4 r5 g5
        go_wp2_with (at_builtin; refine wpList_append_eq rfl (.tmp 26) (.tmp 28) 24 rfl _ _ _ _ rfl rfl RUN.out ?_)
        go_step3
        refine ⟨rfl, ⟨_, _, _, _, _, _, _, _, _, _, _, _, _, _, _, _, _, _, _, _, _, _, _, _, v', i, f, l ++ [(j, x)], rfl, H7.out.1, H7.out.2.1, H7.out.2.2, HOK.out.2, ?_, ?_, HRES.out⟩, ?_⟩
        · have h1 := HG.out.2.2.2.1
          have h2 := HOK.out.1
          rw [List.length_append]
          simp only [List.length_cons, List.length_nil]
          omega
        · have h1 := HG.out.2.2.2.2.1
          have h2 := HOK.out.1
          omega
        · rw [H7.out.1.placeOf, HG.out.2.2.2.2.2.2]
          have h1 := HOK.out
          omega
    · obtain rfl : j = t.size := by omega
      have he : ((t.size : Int) == (t.size : Int)) = true := by simp
      rw [he] at EN
      have hgo2 := HG.out.2.2.2.2.2.1
      have hgo3 : toksGo t f t.size l = .ok l := by
        cases f with
        | zero => rfl
        | succ f => unfold toksGo; rw [if_neg (by omega)]
      rw [hgo3] at hgo2
      have HRES := Lib.hid hgo2
      clear he hgo2 hgo3 hlt hj
      go_wp2_with (fail)
      refine (EN.out W HG.out.1).mono ?_
      rintro e w2 ⟨rfl, qn, hq⟩
      have hd : Below W.heap.size W w2 := by rw [hq]; exact ⟨rfl, rfl, rfl, Nat.le_refl _, fun _ _ => rfl⟩
      clear hq h0 h1
      have H2 := Lib.hid (And.intro (below_cat HG.out.2.1 hd) (HG.out.2.2.1.keep (row := none) ⟨hd.os, hd.tape, hd.output, hd.size, fun k hk _ => hd.block k hk⟩ (fun k e => by cases e)))
      clear hd
      go_wp2_with (fail)
      simp only [Exit.jump]
      go_ret3
      rw [← HRES.out]
      exact ⟨⟨_, rfl, H2.out.2.less (Nat.le_succ _)⟩, H2.out.1⟩
  · intro hp
    go_wp2_with (fail)
    go_step3
    rename_i hK
    refine hK _ _ (hp _ _ ?_)
    refine ⟨_, _, _, _, _, _, _, _, _, _, _, _, _, _, _, _, _, _, _, _, _, _, _, _, .slice none 0 0, 0, t.size, [], rfl, heap_alloc_new w _, (Below.refl _ _).alloc (Nat.le_refl _) _, TokL.nil _ _, Nat.zero_le _, Nat.le_refl _, by omega, hr0⟩
end Go.Proofs.YteipiaefamfleaaGreatDoor
