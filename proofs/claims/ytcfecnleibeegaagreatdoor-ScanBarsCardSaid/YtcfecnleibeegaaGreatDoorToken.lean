/- Proved here: the reader's token: what it reads, where it leaves the reader. -/
import Derived.Test.YtcfecnleibeegaaGreatDoorOpening
import Derived.Test.YtcfecnleibeegaaGreatDoorChars
import Derived.Test.YtcfecnleibeegaaGreatDoorDeclares
import Derived.Test.YtcfecnleibeegaaGreatDoorDeclaration
import Derived.Test.YtcfecnleibeegaaGreatDoorInstr
namespace Go.Proofs.YtcfecnleibeegaaGreatDoor
open Go.RowKit

set_option maxRecDepth 100000 in
set_option maxHeartbeats 32000000 in
theorem token_any (t : ByteArray) (b off cap R k : Nat) (w0 w : World) (E : Env w0 R b off cap t) (hB : Below w0.heap.size w0 w) (h : Rd w R (rv b off cap t) k) (_hk : k ≤ t.size) (hkt : k < t.size) :
    Calls Tryz.prog 34 #[.pointer (some ⟨R, 0, none⟩)] w fun e w' => TokPost R b off cap t w (tokF t k) e w' ∧ Moved R w w' := by
  have hkl := Nat.le_of_lt hkt
  obtain ⟨tok, htok⟩ : ∃ r, tokF t k = r := ⟨_, rfl⟩
  rw [htok]
  unfold tokF at htok
  have HE := Lib.hid (And.intro E (And.intro hB h))
  clear h E hB
  go_enter Tryz.func34, Tryz.ntmps34
  go_wp2_with (fail)
  obtain ⟨W1, hW1⟩ : ∃ W, w.alloc TOK0 = W := ⟨_, rfl⟩
  rw [hW1]
  have S1 := Lib.hid (St.first HE.out.1 HE.out.2.1 HE.out.2.2 hW1)
  clear hW1
  refine (declares_any t b off cap R k w0 W1 S1.out.env S1.out.below S1.out.rd hkl).mono ?_
  rintro e w2 ⟨rfl, hb⟩
  have S2 := Lib.hid (S1.out.grew hb)
  clear hb
  cases ho : opensB t k
  · rw [if_neg (by rw [ho]; simp)] at htok
    clear ho
    go_wp2_with (fail)
    cases hs0 : seesB t k [60, 33, 45, 45]
    · rw [if_neg (by rw [hs0]; simp)] at htok
      refine (take_no t ⟨#[60, 33, 45, 45]⟩ b off cap R k w2 S2.out.rd hkl S2.out.txt hs0).mono ?_
      rintro e v3 ⟨rfl, hr, hm⟩
      have S3 := Lib.hid (S2.out.moved hr hm)
      clear hr hm hs0
      go_wp2_with (fail)
      cases hs1 : seesB t k [60, 33, 91, 67, 68, 65, 84, 65, 91]
      · rw [if_neg (by rw [hs1]; simp)] at htok
        refine (take_no t ⟨#[60, 33, 91, 67, 68, 65, 84, 65, 91]⟩ b off cap R k v3 S3.out.rd hkl S3.out.txt hs1).mono ?_
        rintro e v4 ⟨rfl, hr, hm⟩
        have S4 := Lib.hid (S3.out.moved hr hm)
        clear hr hm hs1
        go_wp2_with (fail)
        cases hs2 : seesB t k [60, 33, 68, 79, 67, 84, 89, 80, 69]
        · rw [if_neg (by rw [hs2]; simp)] at htok
          refine (take_no t ⟨#[60, 33, 68, 79, 67, 84, 89, 80, 69]⟩ b off cap R k v4 S4.out.rd hkl S4.out.txt hs2).mono ?_
          rintro e v5 ⟨rfl, hr, hm⟩
          have S5 := Lib.hid (S4.out.moved hr hm)
          clear hr hm hs2
          go_wp2_with (fail)
          cases hs3 : seesB t k [60, 33]
          · rw [if_neg (by rw [hs3]; simp)] at htok
            refine (take_no t ⟨#[60, 33]⟩ b off cap R k v5 S5.out.rd hkl S5.out.txt hs3).mono ?_
            rintro e v6 ⟨rfl, hr, hm⟩
            have S6 := Lib.hid (S5.out.moved hr hm)
            clear hr hm hs3
            go_wp2_with (fail)
            cases hs4 : seesB t k [60, 63]
            · rw [if_neg (by rw [hs4]; simp)] at htok
              refine (take_no t ⟨#[60, 63]⟩ b off cap R k v6 S6.out.rd hkl S6.out.txt hs4).mono ?_
              rintro e v7 ⟨rfl, hr, hm⟩
              have S7 := Lib.hid (S6.out.moved hr hm)
              clear hr hm hs4
              go_wp2_with (fail)
              cases hs5 : seesB t k [60, 47]
              · rw [if_neg (by rw [hs5]; simp)] at htok
                refine (take_no t ⟨#[60, 47]⟩ b off cap R k v7 S7.out.rd hkl S7.out.txt hs5).mono ?_
                rintro e v8 ⟨rfl, hr, hm⟩
                have S8 := Lib.hid (S7.out.moved hr hm)
                clear hr hm hs5
                go_wp2_with (fail)
                cases hs6 : seesB t k [60]
                · rw [if_neg (by rw [hs6]; simp)] at htok
                  refine (take_no t ⟨#[60]⟩ b off cap R k v8 S8.out.rd hkl S8.out.txt hs6).mono ?_
                  rintro e v9 ⟨rfl, hr, hm⟩
                  have S9 := Lib.hid (S8.out.moved hr hm)
                  clear hr hm hs6
                  have HTOK := Lib.hid htok.symm
                  clear htok
                  have CX := chars_any t b off cap R k w0 v9 S9.out.env S9.out.below S9.out.rd hkl hkt
                  have CH := Lib.hid CX
                  clear CX
                  go_wp2_with (fail)
                  refine CH.out.mono ?_
                  rintro e wz ⟨hpost, hm⟩
                  clear CH
                  have hrow := (hm.block _ S9.out.le (fun e => by injection e with e; have := S9.out.lt; omega)).trans S9.out.out
                  have hmz := S9.out.mv.trans hm
                  cases hres : charsF t k with
                  | error e0 =>
                    rw [hres] at hpost
                    have hpe : e = .returned (.tuple #[tokV 0 0 ⟨#[]⟩ (.slice none 0 0) ⟨#[]⟩ 0, .int .i64 (e0 : Int)]) := hpost
                    subst hpe
                    have ROW := Lib.hid hrow
                    have MZ := Lib.hid hmz
                    have HRES := Lib.hid (HTOK.out.trans hres)
                    clear hrow hmz hpost hres hm
                    obtain ⟨⟨c0, c1, c2, c3, c4, c5⟩, ⟨f0, f1, f2, f3, f4, f5⟩⟩ := six_cells ROW.out
                    go_wp2_with (fail)
                    change bodyPost _ _ _ _ _ (setTok wz w.heap.size 0 0 ⟨#[]⟩ (.slice none 0 0) ⟨#[]⟩ 0)
                    obtain ⟨w9, hw9⟩ : ∃ W, setTok wz w.heap.size 0 0 ⟨#[]⟩ (.slice none 0 0) ⟨#[]⟩ 0 = W := ⟨_, rfl⟩
                    obtain ⟨r9, m9⟩ := setTok_row 0 0 ⟨#[]⟩ (.slice none 0 0) ⟨#[]⟩ 0 ROW.out
                    rw [hw9] at r9 m9 ⊢
                    obtain ⟨⟨d0, d1, d2, d3, d4, d5⟩, _⟩ := six_cells r9
                    refine bodyPost_ret (v := .tuple #[tokV 0 0 ⟨#[]⟩ (.slice none 0 0) ⟨#[]⟩ 0, .int .i64 (e0 : Int)]) ?_ rfl ?_
                    · rw [results_cell_tmp rfl]
                      go_simp
                    · rw [HRES.out]
                      exact ⟨rfl, MZ.out.past m9 (Nat.le_refl _)⟩
                  | ok x =>
                    obtain ⟨x, i⟩ := x
                    rw [hres] at hpost
                    obtain ⟨pv, he, hpa, hrz⟩ := hpost
                    obtain ⟨q, m, c, rfl⟩ : ∃ q m c, pv = .slice q m c := hpa.form
                    subst he
                    have ROW := Lib.hid hrow
                    have MZ := Lib.hid hmz
                    have HPA := Lib.hid hpa
                    have HRZ := Lib.hid hrz
                    have HRES := Lib.hid (HTOK.out.trans hres)
                    have hlt := S9.out.le
                    have HLT := Lib.hid hlt
                    clear hrow hmz hpa hrz hres hm hlt
                    obtain ⟨⟨c0, c1, c2, c3, c4, c5⟩, ⟨f0, f1, f2, f3, f4, f5⟩⟩ := six_cells ROW.out
                    go_wp2_with (fail)
                    change bodyPost _ _ _ _ _ (setTok wz w.heap.size (x.kind : Int) 0 x.name (.slice q m c) x.text (x.refs : Int))
                    obtain ⟨w9, hw9⟩ : ∃ W, setTok wz w.heap.size (x.kind : Int) 0 x.name (.slice q m c) x.text (x.refs : Int) = W := ⟨_, rfl⟩
                    obtain ⟨r9, m9⟩ := setTok_row (x.kind : Int) 0 x.name (.slice q m c) x.text (x.refs : Int) ROW.out
                    rw [hw9] at r9 m9 ⊢
                    obtain ⟨⟨d0, d1, d2, d3, d4, d5⟩, _⟩ := six_cells r9
                    refine bodyPost_ret (v := .tuple #[tokV (x.kind : Int) 0 x.name (.slice q m c) x.text (x.refs : Int), .int .i64 0]) ?_ rfl ?_
                    · rw [results_cell_tmp rfl]
                      go_simp
                    · rw [HRES.out]
                      have hR := S9.out.lt
                      have hlt := HLT.out
                      exact ⟨⟨.slice q m c, rfl, PairsAt.less (World.ownsRow.kept HPA.out m9 (.inr (HPA.out.ne ROW.out (fun cs e => by injection e with _ e2 _; cases e2)))) (by omega), HRZ.out.past m9 (by omega)⟩, MZ.out.past m9 (Nat.le_refl _)⟩
                · rw [if_pos hs6] at htok
                  have hroom : k + 1 ≤ t.size := sees_room hkl hs6
                  refine (take_yes t ⟨#[60]⟩ b off cap R k v8 S8.out.rd hkl S8.out.txt (by decide) hs6).mono ?_
                  rintro e v9 ⟨rfl, hr, hm⟩
                  have S9 := Lib.hid (S8.out.moved hr hm)
                  clear hr hm hs6
                  have HTOK := Lib.hid htok.symm
                  clear htok
                  have CX := opening_any t b off cap R (k + 1) w0 v9 S9.out.env S9.out.below S9.out.rd hroom
                  have CH := Lib.hid CX
                  clear CX
                  go_wp2_with (fail)
                  refine CH.out.mono ?_
                  rintro e wz ⟨hpost, hm⟩
                  clear CH
                  have hrow := (hm.block _ S9.out.le (fun e => by injection e with e; have := S9.out.lt; omega)).trans S9.out.out
                  have hmz := S9.out.mv.trans hm
                  cases hres : tagF t (k + 1) with
                  | error e0 =>
                    rw [hres] at hpost
                    have hpe : e = .returned (.tuple #[tokV 0 0 ⟨#[]⟩ (.slice none 0 0) ⟨#[]⟩ 0, .int .i64 (e0 : Int)]) := hpost
                    subst hpe
                    have ROW := Lib.hid hrow
                    have MZ := Lib.hid hmz
                    have HRES := Lib.hid (HTOK.out.trans hres)
                    clear hrow hmz hpost hres hm
                    obtain ⟨⟨c0, c1, c2, c3, c4, c5⟩, ⟨f0, f1, f2, f3, f4, f5⟩⟩ := six_cells ROW.out
                    go_wp2_with (fail)
                    change bodyPost _ _ _ _ _ (setTok wz w.heap.size 0 0 ⟨#[]⟩ (.slice none 0 0) ⟨#[]⟩ 0)
                    obtain ⟨w9, hw9⟩ : ∃ W, setTok wz w.heap.size 0 0 ⟨#[]⟩ (.slice none 0 0) ⟨#[]⟩ 0 = W := ⟨_, rfl⟩
                    obtain ⟨r9, m9⟩ := setTok_row 0 0 ⟨#[]⟩ (.slice none 0 0) ⟨#[]⟩ 0 ROW.out
                    rw [hw9] at r9 m9 ⊢
                    obtain ⟨⟨d0, d1, d2, d3, d4, d5⟩, _⟩ := six_cells r9
                    refine bodyPost_ret (v := .tuple #[tokV 0 0 ⟨#[]⟩ (.slice none 0 0) ⟨#[]⟩ 0, .int .i64 (e0 : Int)]) ?_ rfl ?_
                    · rw [results_cell_tmp rfl]
                      go_simp
                    · rw [HRES.out]
                      exact ⟨rfl, MZ.out.past m9 (Nat.le_refl _)⟩
                  | ok x =>
                    obtain ⟨x, i⟩ := x
                    rw [hres] at hpost
                    obtain ⟨pv, he, hpa, hrz⟩ := hpost
                    obtain ⟨q, m, c, rfl⟩ : ∃ q m c, pv = .slice q m c := hpa.form
                    subst he
                    have ROW := Lib.hid hrow
                    have MZ := Lib.hid hmz
                    have HPA := Lib.hid hpa
                    have HRZ := Lib.hid hrz
                    have HRES := Lib.hid (HTOK.out.trans hres)
                    have hlt := S9.out.le
                    have HLT := Lib.hid hlt
                    clear hrow hmz hpa hrz hres hm hlt
                    obtain ⟨⟨c0, c1, c2, c3, c4, c5⟩, ⟨f0, f1, f2, f3, f4, f5⟩⟩ := six_cells ROW.out
                    go_wp2_with (fail)
                    change bodyPost _ _ _ _ _ (setTok wz w.heap.size (x.kind : Int) 0 x.name (.slice q m c) x.text (x.refs : Int))
                    obtain ⟨w9, hw9⟩ : ∃ W, setTok wz w.heap.size (x.kind : Int) 0 x.name (.slice q m c) x.text (x.refs : Int) = W := ⟨_, rfl⟩
                    obtain ⟨r9, m9⟩ := setTok_row (x.kind : Int) 0 x.name (.slice q m c) x.text (x.refs : Int) ROW.out
                    rw [hw9] at r9 m9 ⊢
                    obtain ⟨⟨d0, d1, d2, d3, d4, d5⟩, _⟩ := six_cells r9
                    refine bodyPost_ret (v := .tuple #[tokV (x.kind : Int) 0 x.name (.slice q m c) x.text (x.refs : Int), .int .i64 0]) ?_ rfl ?_
                    · rw [results_cell_tmp rfl]
                      go_simp
                    · rw [HRES.out]
                      have hR := S9.out.lt
                      have hlt := HLT.out
                      exact ⟨⟨.slice q m c, rfl, PairsAt.less (World.ownsRow.kept HPA.out m9 (.inr (HPA.out.ne ROW.out (fun cs e => by injection e with _ e2 _; cases e2)))) (by omega), HRZ.out.past m9 (by omega)⟩, MZ.out.past m9 (Nat.le_refl _)⟩
              · rw [if_pos hs5] at htok
                have hroom : k + 2 ≤ t.size := sees_room hkl hs5
                refine (take_yes t ⟨#[60, 47]⟩ b off cap R k v7 S7.out.rd hkl S7.out.txt (by decide) hs5).mono ?_
                rintro e v8 ⟨rfl, hr, hm⟩
                have S8 := Lib.hid (S7.out.moved hr hm)
                clear hr hm hs5
                have HTOK := Lib.hid htok.symm
                clear htok
                have CX := closing_any t b off cap R (k + 2) w0 v8 S8.out.env S8.out.below S8.out.rd hroom
                have CH := Lib.hid CX
                clear CX
                go_wp2_with (fail)
                refine CH.out.mono ?_
                rintro e wz ⟨hpost, hm⟩
                clear CH
                have hrow := (hm.block _ S8.out.le (fun e => by injection e with e; have := S8.out.lt; omega)).trans S8.out.out
                have hmz := S8.out.mv.trans hm
                cases hres : closingF t (k + 2) with
                | error e0 =>
                  rw [hres] at hpost
                  have hpe : e = .returned (.tuple #[tokV 0 0 ⟨#[]⟩ (.slice none 0 0) ⟨#[]⟩ 0, .int .i64 (e0 : Int)]) := hpost
                  subst hpe
                  have ROW := Lib.hid hrow
                  have MZ := Lib.hid hmz
                  have HRES := Lib.hid (HTOK.out.trans hres)
                  clear hrow hmz hpost hres hm
                  obtain ⟨⟨c0, c1, c2, c3, c4, c5⟩, ⟨f0, f1, f2, f3, f4, f5⟩⟩ := six_cells ROW.out
                  go_wp2_with (fail)
                  change bodyPost _ _ _ _ _ (setTok wz w.heap.size 0 0 ⟨#[]⟩ (.slice none 0 0) ⟨#[]⟩ 0)
                  obtain ⟨w9, hw9⟩ : ∃ W, setTok wz w.heap.size 0 0 ⟨#[]⟩ (.slice none 0 0) ⟨#[]⟩ 0 = W := ⟨_, rfl⟩
                  obtain ⟨r9, m9⟩ := setTok_row 0 0 ⟨#[]⟩ (.slice none 0 0) ⟨#[]⟩ 0 ROW.out
                  rw [hw9] at r9 m9 ⊢
                  obtain ⟨⟨d0, d1, d2, d3, d4, d5⟩, _⟩ := six_cells r9
                  refine bodyPost_ret (v := .tuple #[tokV 0 0 ⟨#[]⟩ (.slice none 0 0) ⟨#[]⟩ 0, .int .i64 (e0 : Int)]) ?_ rfl ?_
                  · rw [results_cell_tmp rfl]
                    go_simp
                  · rw [HRES.out]
                    exact ⟨rfl, MZ.out.past m9 (Nat.le_refl _)⟩
                | ok x =>
                  obtain ⟨x, i⟩ := x
                  rw [hres] at hpost
                  obtain ⟨pv, he, hpa, hrz⟩ := hpost
                  obtain ⟨q, m, c, rfl⟩ : ∃ q m c, pv = .slice q m c := hpa.form
                  subst he
                  have ROW := Lib.hid hrow
                  have MZ := Lib.hid hmz
                  have HPA := Lib.hid hpa
                  have HRZ := Lib.hid hrz
                  have HRES := Lib.hid (HTOK.out.trans hres)
                  have hlt := S8.out.le
                  have HLT := Lib.hid hlt
                  clear hrow hmz hpa hrz hres hm hlt
                  obtain ⟨⟨c0, c1, c2, c3, c4, c5⟩, ⟨f0, f1, f2, f3, f4, f5⟩⟩ := six_cells ROW.out
                  go_wp2_with (fail)
                  change bodyPost _ _ _ _ _ (setTok wz w.heap.size (x.kind : Int) 0 x.name (.slice q m c) x.text (x.refs : Int))
                  obtain ⟨w9, hw9⟩ : ∃ W, setTok wz w.heap.size (x.kind : Int) 0 x.name (.slice q m c) x.text (x.refs : Int) = W := ⟨_, rfl⟩
                  obtain ⟨r9, m9⟩ := setTok_row (x.kind : Int) 0 x.name (.slice q m c) x.text (x.refs : Int) ROW.out
                  rw [hw9] at r9 m9 ⊢
                  obtain ⟨⟨d0, d1, d2, d3, d4, d5⟩, _⟩ := six_cells r9
                  refine bodyPost_ret (v := .tuple #[tokV (x.kind : Int) 0 x.name (.slice q m c) x.text (x.refs : Int), .int .i64 0]) ?_ rfl ?_
                  · rw [results_cell_tmp rfl]
                    go_simp
                  · rw [HRES.out]
                    have hR := S8.out.lt
                    have hlt := HLT.out
                    exact ⟨⟨.slice q m c, rfl, PairsAt.less (World.ownsRow.kept HPA.out m9 (.inr (HPA.out.ne ROW.out (fun cs e => by injection e with _ e2 _; cases e2)))) (by omega), HRZ.out.past m9 (by omega)⟩, MZ.out.past m9 (Nat.le_refl _)⟩
            · rw [if_pos hs4] at htok
              have hroom : k + 2 ≤ t.size := sees_room hkl hs4
              refine (take_yes t ⟨#[60, 63]⟩ b off cap R k v6 S6.out.rd hkl S6.out.txt (by decide) hs4).mono ?_
              rintro e v7 ⟨rfl, hr, hm⟩
              have S7 := Lib.hid (S6.out.moved hr hm)
              clear hr hm hs4
              have HTOK := Lib.hid htok.symm
              clear htok
              have CX := instr_any t b off cap R (k + 2) w0 v7 S7.out.env S7.out.below S7.out.rd hroom
              have CH := Lib.hid CX
              clear CX
              go_wp2_with (fail)
              refine CH.out.mono ?_
              rintro e wz ⟨hpost, hm⟩
              clear CH
              have hrow := (hm.block _ S7.out.le (fun e => by injection e with e; have := S7.out.lt; omega)).trans S7.out.out
              have hmz := S7.out.mv.trans hm
              cases hres : instrF t (k + 2) with
              | error e0 =>
                rw [hres] at hpost
                have hpe : e = .returned (.tuple #[tokV 0 0 ⟨#[]⟩ (.slice none 0 0) ⟨#[]⟩ 0, .int .i64 (e0 : Int)]) := hpost
                subst hpe
                have ROW := Lib.hid hrow
                have MZ := Lib.hid hmz
                have HRES := Lib.hid (HTOK.out.trans hres)
                clear hrow hmz hpost hres hm
                obtain ⟨⟨c0, c1, c2, c3, c4, c5⟩, ⟨f0, f1, f2, f3, f4, f5⟩⟩ := six_cells ROW.out
                go_wp2_with (fail)
                change bodyPost _ _ _ _ _ (setTok wz w.heap.size 0 0 ⟨#[]⟩ (.slice none 0 0) ⟨#[]⟩ 0)
                obtain ⟨w9, hw9⟩ : ∃ W, setTok wz w.heap.size 0 0 ⟨#[]⟩ (.slice none 0 0) ⟨#[]⟩ 0 = W := ⟨_, rfl⟩
                obtain ⟨r9, m9⟩ := setTok_row 0 0 ⟨#[]⟩ (.slice none 0 0) ⟨#[]⟩ 0 ROW.out
                rw [hw9] at r9 m9 ⊢
                obtain ⟨⟨d0, d1, d2, d3, d4, d5⟩, _⟩ := six_cells r9
                refine bodyPost_ret (v := .tuple #[tokV 0 0 ⟨#[]⟩ (.slice none 0 0) ⟨#[]⟩ 0, .int .i64 (e0 : Int)]) ?_ rfl ?_
                · rw [results_cell_tmp rfl]
                  go_simp
                · rw [HRES.out]
                  exact ⟨rfl, MZ.out.past m9 (Nat.le_refl _)⟩
              | ok x =>
                obtain ⟨x, i⟩ := x
                rw [hres] at hpost
                obtain ⟨pv, he, hpa, hrz⟩ := hpost
                obtain ⟨q, m, c, rfl⟩ : ∃ q m c, pv = .slice q m c := hpa.form
                subst he
                have ROW := Lib.hid hrow
                have MZ := Lib.hid hmz
                have HPA := Lib.hid hpa
                have HRZ := Lib.hid hrz
                have HRES := Lib.hid (HTOK.out.trans hres)
                have hlt := S7.out.le
                have HLT := Lib.hid hlt
                clear hrow hmz hpa hrz hres hm hlt
                obtain ⟨⟨c0, c1, c2, c3, c4, c5⟩, ⟨f0, f1, f2, f3, f4, f5⟩⟩ := six_cells ROW.out
                go_wp2_with (fail)
                change bodyPost _ _ _ _ _ (setTok wz w.heap.size (x.kind : Int) 0 x.name (.slice q m c) x.text (x.refs : Int))
                obtain ⟨w9, hw9⟩ : ∃ W, setTok wz w.heap.size (x.kind : Int) 0 x.name (.slice q m c) x.text (x.refs : Int) = W := ⟨_, rfl⟩
                obtain ⟨r9, m9⟩ := setTok_row (x.kind : Int) 0 x.name (.slice q m c) x.text (x.refs : Int) ROW.out
                rw [hw9] at r9 m9 ⊢
                obtain ⟨⟨d0, d1, d2, d3, d4, d5⟩, _⟩ := six_cells r9
                refine bodyPost_ret (v := .tuple #[tokV (x.kind : Int) 0 x.name (.slice q m c) x.text (x.refs : Int), .int .i64 0]) ?_ rfl ?_
                · rw [results_cell_tmp rfl]
                  go_simp
                · rw [HRES.out]
                  have hR := S7.out.lt
                  have hlt := HLT.out
                  exact ⟨⟨.slice q m c, rfl, PairsAt.less (World.ownsRow.kept HPA.out m9 (.inr (HPA.out.ne ROW.out (fun cs e => by injection e with _ e2 _; cases e2)))) (by omega), HRZ.out.past m9 (by omega)⟩, MZ.out.past m9 (Nat.le_refl _)⟩
          · rw [if_pos hs3] at htok
            have hroom : k + 2 ≤ t.size := sees_room hkl hs3
            refine (take_yes t ⟨#[60, 33]⟩ b off cap R k v5 S5.out.rd hkl S5.out.txt (by decide) hs3).mono ?_
            rintro e v6 ⟨rfl, hr, hm⟩
            have S6 := Lib.hid (S5.out.moved hr hm)
            clear hr hm hs3
            have HTOK := Lib.hid htok.symm
            clear htok
            have ROW := Lib.hid S6.out.out
            have MZ := Lib.hid S6.out.mv
            obtain ⟨⟨c0, c1, c2, c3, c4, c5⟩, ⟨f0, f1, f2, f3, f4, f5⟩⟩ := six_cells ROW.out
            go_wp2_with (fail)
            change bodyPost _ _ _ _ _ (setTok v6 w.heap.size 0 0 ⟨#[]⟩ (.slice none 0 0) ⟨#[]⟩ 0)
            obtain ⟨w9, hw9⟩ : ∃ W, setTok v6 w.heap.size 0 0 ⟨#[]⟩ (.slice none 0 0) ⟨#[]⟩ 0 = W := ⟨_, rfl⟩
            obtain ⟨r9, m9⟩ := setTok_row 0 0 ⟨#[]⟩ (.slice none 0 0) ⟨#[]⟩ 0 ROW.out
            rw [hw9] at r9 m9 ⊢
            obtain ⟨⟨d0, d1, d2, d3, d4, d5⟩, _⟩ := six_cells r9
            refine bodyPost_ret (v := .tuple #[tokV 0 0 ⟨#[]⟩ (.slice none 0 0) ⟨#[]⟩ 0, .int .i64 23]) ?_ rfl ?_
            · rw [results_cell_tmp rfl]
              go_simp
            · rw [HTOK.out]
              exact ⟨rfl, MZ.out.past m9 (Nat.le_refl _)⟩
        · rw [if_pos hs2] at htok
          have hroom : k + 9 ≤ t.size := sees_room hkl hs2
          refine (take_yes t ⟨#[60, 33, 68, 79, 67, 84, 89, 80, 69]⟩ b off cap R k v4 S4.out.rd hkl S4.out.txt (by decide) hs2).mono ?_
          rintro e v5 ⟨rfl, hr, hm⟩
          have S5 := Lib.hid (S4.out.moved hr hm)
          clear hr hm hs2
          have HTOK := Lib.hid htok.symm
          clear htok
          have ROW := Lib.hid S5.out.out
          have MZ := Lib.hid S5.out.mv
          obtain ⟨⟨c0, c1, c2, c3, c4, c5⟩, ⟨f0, f1, f2, f3, f4, f5⟩⟩ := six_cells ROW.out
          go_wp2_with (fail)
          change bodyPost _ _ _ _ _ (setTok v5 w.heap.size 0 0 ⟨#[]⟩ (.slice none 0 0) ⟨#[]⟩ 0)
          obtain ⟨w9, hw9⟩ : ∃ W, setTok v5 w.heap.size 0 0 ⟨#[]⟩ (.slice none 0 0) ⟨#[]⟩ 0 = W := ⟨_, rfl⟩
          obtain ⟨r9, m9⟩ := setTok_row 0 0 ⟨#[]⟩ (.slice none 0 0) ⟨#[]⟩ 0 ROW.out
          rw [hw9] at r9 m9 ⊢
          obtain ⟨⟨d0, d1, d2, d3, d4, d5⟩, _⟩ := six_cells r9
          refine bodyPost_ret (v := .tuple #[tokV 0 0 ⟨#[]⟩ (.slice none 0 0) ⟨#[]⟩ 0, .int .i64 25]) ?_ rfl ?_
          · rw [results_cell_tmp rfl]
            go_simp
          · rw [HTOK.out]
            exact ⟨rfl, MZ.out.past m9 (Nat.le_refl _)⟩
      · rw [if_pos hs1] at htok
        have hroom : k + 9 ≤ t.size := sees_room hkl hs1
        refine (take_yes t ⟨#[60, 33, 91, 67, 68, 65, 84, 65, 91]⟩ b off cap R k v3 S3.out.rd hkl S3.out.txt (by decide) hs1).mono ?_
        rintro e v4 ⟨rfl, hr, hm⟩
        have S4 := Lib.hid (S3.out.moved hr hm)
        clear hr hm hs1
        have HTOK := Lib.hid htok.symm
        clear htok
        have CX := data_any t b off cap R (k + 9) w0 v4 S4.out.env S4.out.below S4.out.rd hroom
        have CH := Lib.hid CX
        clear CX
        go_wp2_with (fail)
        refine CH.out.mono ?_
        rintro e wz ⟨hpost, hm⟩
        clear CH
        have hrow := (hm.block _ S4.out.le (fun e => by injection e with e; have := S4.out.lt; omega)).trans S4.out.out
        have hmz := S4.out.mv.trans hm
        cases hres : dataF t (k + 9) with
        | error e0 =>
          rw [hres] at hpost
          have hpe : e = .returned (.tuple #[tokV 0 0 ⟨#[]⟩ (.slice none 0 0) ⟨#[]⟩ 0, .int .i64 (e0 : Int)]) := hpost
          subst hpe
          have ROW := Lib.hid hrow
          have MZ := Lib.hid hmz
          have HRES := Lib.hid (HTOK.out.trans hres)
          clear hrow hmz hpost hres hm
          obtain ⟨⟨c0, c1, c2, c3, c4, c5⟩, ⟨f0, f1, f2, f3, f4, f5⟩⟩ := six_cells ROW.out
          go_wp2_with (fail)
          change bodyPost _ _ _ _ _ (setTok wz w.heap.size 0 0 ⟨#[]⟩ (.slice none 0 0) ⟨#[]⟩ 0)
          obtain ⟨w9, hw9⟩ : ∃ W, setTok wz w.heap.size 0 0 ⟨#[]⟩ (.slice none 0 0) ⟨#[]⟩ 0 = W := ⟨_, rfl⟩
          obtain ⟨r9, m9⟩ := setTok_row 0 0 ⟨#[]⟩ (.slice none 0 0) ⟨#[]⟩ 0 ROW.out
          rw [hw9] at r9 m9 ⊢
          obtain ⟨⟨d0, d1, d2, d3, d4, d5⟩, _⟩ := six_cells r9
          refine bodyPost_ret (v := .tuple #[tokV 0 0 ⟨#[]⟩ (.slice none 0 0) ⟨#[]⟩ 0, .int .i64 (e0 : Int)]) ?_ rfl ?_
          · rw [results_cell_tmp rfl]
            go_simp
          · rw [HRES.out]
            exact ⟨rfl, MZ.out.past m9 (Nat.le_refl _)⟩
        | ok x =>
          obtain ⟨x, i⟩ := x
          rw [hres] at hpost
          obtain ⟨pv, he, hpa, hrz⟩ := hpost
          obtain ⟨q, m, c, rfl⟩ : ∃ q m c, pv = .slice q m c := hpa.form
          subst he
          have ROW := Lib.hid hrow
          have MZ := Lib.hid hmz
          have HPA := Lib.hid hpa
          have HRZ := Lib.hid hrz
          have HRES := Lib.hid (HTOK.out.trans hres)
          have hlt := S4.out.le
          have HLT := Lib.hid hlt
          clear hrow hmz hpa hrz hres hm hlt
          obtain ⟨⟨c0, c1, c2, c3, c4, c5⟩, ⟨f0, f1, f2, f3, f4, f5⟩⟩ := six_cells ROW.out
          go_wp2_with (fail)
          change bodyPost _ _ _ _ _ (setTok wz w.heap.size (x.kind : Int) 0 x.name (.slice q m c) x.text (x.refs : Int))
          obtain ⟨w9, hw9⟩ : ∃ W, setTok wz w.heap.size (x.kind : Int) 0 x.name (.slice q m c) x.text (x.refs : Int) = W := ⟨_, rfl⟩
          obtain ⟨r9, m9⟩ := setTok_row (x.kind : Int) 0 x.name (.slice q m c) x.text (x.refs : Int) ROW.out
          rw [hw9] at r9 m9 ⊢
          obtain ⟨⟨d0, d1, d2, d3, d4, d5⟩, _⟩ := six_cells r9
          refine bodyPost_ret (v := .tuple #[tokV (x.kind : Int) 0 x.name (.slice q m c) x.text (x.refs : Int), .int .i64 0]) ?_ rfl ?_
          · rw [results_cell_tmp rfl]
            go_simp
          · rw [HRES.out]
            have hR := S4.out.lt
            have hlt := HLT.out
            exact ⟨⟨.slice q m c, rfl, PairsAt.less (World.ownsRow.kept HPA.out m9 (.inr (HPA.out.ne ROW.out (fun cs e => by injection e with _ e2 _; cases e2)))) (by omega), HRZ.out.past m9 (by omega)⟩, MZ.out.past m9 (Nat.le_refl _)⟩
    · rw [if_pos hs0] at htok
      have hroom : k + 4 ≤ t.size := sees_room hkl hs0
      refine (take_yes t ⟨#[60, 33, 45, 45]⟩ b off cap R k w2 S2.out.rd hkl S2.out.txt (by decide) hs0).mono ?_
      rintro e v3 ⟨rfl, hr, hm⟩
      have S3 := Lib.hid (S2.out.moved hr hm)
      clear hr hm hs0
      have HTOK := Lib.hid htok.symm
      clear htok
      have CX := comment_any t b off cap R (k + 4) w0 v3 S3.out.env S3.out.below S3.out.rd hroom
      have CH := Lib.hid CX
      clear CX
      go_wp2_with (fail)
      refine CH.out.mono ?_
      rintro e wz ⟨hpost, hm⟩
      clear CH
      have hrow := (hm.block _ S3.out.le (fun e => by injection e with e; have := S3.out.lt; omega)).trans S3.out.out
      have hmz := S3.out.mv.trans hm
      cases hres : commentF t (k + 4) with
      | error e0 =>
        rw [hres] at hpost
        have hpe : e = .returned (.tuple #[tokV 0 0 ⟨#[]⟩ (.slice none 0 0) ⟨#[]⟩ 0, .int .i64 (e0 : Int)]) := hpost
        subst hpe
        have ROW := Lib.hid hrow
        have MZ := Lib.hid hmz
        have HRES := Lib.hid (HTOK.out.trans hres)
        clear hrow hmz hpost hres hm
        obtain ⟨⟨c0, c1, c2, c3, c4, c5⟩, ⟨f0, f1, f2, f3, f4, f5⟩⟩ := six_cells ROW.out
        go_wp2_with (fail)
        change bodyPost _ _ _ _ _ (setTok wz w.heap.size 0 0 ⟨#[]⟩ (.slice none 0 0) ⟨#[]⟩ 0)
        obtain ⟨w9, hw9⟩ : ∃ W, setTok wz w.heap.size 0 0 ⟨#[]⟩ (.slice none 0 0) ⟨#[]⟩ 0 = W := ⟨_, rfl⟩
        obtain ⟨r9, m9⟩ := setTok_row 0 0 ⟨#[]⟩ (.slice none 0 0) ⟨#[]⟩ 0 ROW.out
        rw [hw9] at r9 m9 ⊢
        obtain ⟨⟨d0, d1, d2, d3, d4, d5⟩, _⟩ := six_cells r9
        refine bodyPost_ret (v := .tuple #[tokV 0 0 ⟨#[]⟩ (.slice none 0 0) ⟨#[]⟩ 0, .int .i64 (e0 : Int)]) ?_ rfl ?_
        · rw [results_cell_tmp rfl]
          go_simp
        · rw [HRES.out]
          exact ⟨rfl, MZ.out.past m9 (Nat.le_refl _)⟩
      | ok x =>
        obtain ⟨x, i⟩ := x
        rw [hres] at hpost
        obtain ⟨pv, he, hpa, hrz⟩ := hpost
        obtain ⟨q, m, c, rfl⟩ : ∃ q m c, pv = .slice q m c := hpa.form
        subst he
        have ROW := Lib.hid hrow
        have MZ := Lib.hid hmz
        have HPA := Lib.hid hpa
        have HRZ := Lib.hid hrz
        have HRES := Lib.hid (HTOK.out.trans hres)
        have hlt := S3.out.le
        have HLT := Lib.hid hlt
        clear hrow hmz hpa hrz hres hm hlt
        obtain ⟨⟨c0, c1, c2, c3, c4, c5⟩, ⟨f0, f1, f2, f3, f4, f5⟩⟩ := six_cells ROW.out
        go_wp2_with (fail)
        change bodyPost _ _ _ _ _ (setTok wz w.heap.size (x.kind : Int) 0 x.name (.slice q m c) x.text (x.refs : Int))
        obtain ⟨w9, hw9⟩ : ∃ W, setTok wz w.heap.size (x.kind : Int) 0 x.name (.slice q m c) x.text (x.refs : Int) = W := ⟨_, rfl⟩
        obtain ⟨r9, m9⟩ := setTok_row (x.kind : Int) 0 x.name (.slice q m c) x.text (x.refs : Int) ROW.out
        rw [hw9] at r9 m9 ⊢
        obtain ⟨⟨d0, d1, d2, d3, d4, d5⟩, _⟩ := six_cells r9
        refine bodyPost_ret (v := .tuple #[tokV (x.kind : Int) 0 x.name (.slice q m c) x.text (x.refs : Int), .int .i64 0]) ?_ rfl ?_
        · rw [results_cell_tmp rfl]
          go_simp
        · rw [HRES.out]
          have hR := S3.out.lt
          have hlt := HLT.out
          exact ⟨⟨.slice q m c, rfl, PairsAt.less (World.ownsRow.kept HPA.out m9 (.inr (HPA.out.ne ROW.out (fun cs e => by injection e with _ e2 _; cases e2)))) (by omega), HRZ.out.past m9 (by omega)⟩, MZ.out.past m9 (Nat.le_refl _)⟩
  · have hk0 : seesB t k [60, 63, 120, 109, 108] = true := by
      unfold opensB at ho
      simp only [Bool.and_eq_true, decide_eq_true_eq] at ho
      rw [ho.1.1.1]
      exact ho.1.1.2
    rw [if_pos ho] at htok
    have HTOK := Lib.hid htok.symm
    clear htok ho
    have CX := declaration_any t b off cap R k w0 w2 S2.out.env S2.out.below S2.out.rd hkl hk0
    have CH := Lib.hid CX
    clear CX
    go_wp2_with (fail)
    refine CH.out.mono ?_
    rintro e wz ⟨hpost, hm⟩
    clear CH
    have hrow := (hm.block _ S2.out.le (fun e => by injection e with e; have := S2.out.lt; omega)).trans S2.out.out
    have hmz := S2.out.mv.trans hm
    cases hres : declF t (k + 5) with
    | error e0 =>
      rw [hres] at hpost
      have hpe : e = .returned (.tuple #[tokV 0 0 ⟨#[]⟩ (.slice none 0 0) ⟨#[]⟩ 0, .int .i64 (e0 : Int)]) := hpost
      subst hpe
      have ROW := Lib.hid hrow
      have MZ := Lib.hid hmz
      have HRES := Lib.hid (HTOK.out.trans hres)
      clear hrow hmz hpost hres hm
      obtain ⟨⟨c0, c1, c2, c3, c4, c5⟩, ⟨f0, f1, f2, f3, f4, f5⟩⟩ := six_cells ROW.out
      go_wp2_with (fail)
      change bodyPost _ _ _ _ _ (setTok wz w.heap.size 0 0 ⟨#[]⟩ (.slice none 0 0) ⟨#[]⟩ 0)
      obtain ⟨w9, hw9⟩ : ∃ W, setTok wz w.heap.size 0 0 ⟨#[]⟩ (.slice none 0 0) ⟨#[]⟩ 0 = W := ⟨_, rfl⟩
      obtain ⟨r9, m9⟩ := setTok_row 0 0 ⟨#[]⟩ (.slice none 0 0) ⟨#[]⟩ 0 ROW.out
      rw [hw9] at r9 m9 ⊢
      obtain ⟨⟨d0, d1, d2, d3, d4, d5⟩, _⟩ := six_cells r9
      refine bodyPost_ret (v := .tuple #[tokV 0 0 ⟨#[]⟩ (.slice none 0 0) ⟨#[]⟩ 0, .int .i64 (e0 : Int)]) ?_ rfl ?_
      · rw [results_cell_tmp rfl]
        go_simp
      · rw [HRES.out]
        exact ⟨rfl, MZ.out.past m9 (Nat.le_refl _)⟩
    | ok x =>
      obtain ⟨x, i⟩ := x
      rw [hres] at hpost
      obtain ⟨pv, he, hpa, hrz⟩ := hpost
      obtain ⟨q, m, c, rfl⟩ : ∃ q m c, pv = .slice q m c := hpa.form
      subst he
      have ROW := Lib.hid hrow
      have MZ := Lib.hid hmz
      have HPA := Lib.hid hpa
      have HRZ := Lib.hid hrz
      have HRES := Lib.hid (HTOK.out.trans hres)
      have hlt := S2.out.le
      have HLT := Lib.hid hlt
      clear hrow hmz hpa hrz hres hm hlt
      obtain ⟨⟨c0, c1, c2, c3, c4, c5⟩, ⟨f0, f1, f2, f3, f4, f5⟩⟩ := six_cells ROW.out
      go_wp2_with (fail)
      change bodyPost _ _ _ _ _ (setTok wz w.heap.size (x.kind : Int) 0 x.name (.slice q m c) x.text (x.refs : Int))
      obtain ⟨w9, hw9⟩ : ∃ W, setTok wz w.heap.size (x.kind : Int) 0 x.name (.slice q m c) x.text (x.refs : Int) = W := ⟨_, rfl⟩
      obtain ⟨r9, m9⟩ := setTok_row (x.kind : Int) 0 x.name (.slice q m c) x.text (x.refs : Int) ROW.out
      rw [hw9] at r9 m9 ⊢
      obtain ⟨⟨d0, d1, d2, d3, d4, d5⟩, _⟩ := six_cells r9
      refine bodyPost_ret (v := .tuple #[tokV (x.kind : Int) 0 x.name (.slice q m c) x.text (x.refs : Int), .int .i64 0]) ?_ rfl ?_
      · rw [results_cell_tmp rfl]
        go_simp
      · rw [HRES.out]
        have hR := S2.out.lt
        have hlt := HLT.out
        exact ⟨⟨.slice q m c, rfl, PairsAt.less (World.ownsRow.kept HPA.out m9 (.inr (HPA.out.ne ROW.out (fun cs e => by injection e with _ e2 _; cases e2)))) (by omega), HRZ.out.past m9 (by omega)⟩, MZ.out.past m9 (Nat.le_refl _)⟩
end Go.Proofs.YtcfecnleibeegaaGreatDoor
