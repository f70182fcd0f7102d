/- Proved here: the reader's opening: what it reads, where it leaves the reader. -/
import Derived.Test.YteipiaefamfleaaGreatDoorM10
import Derived.ScopeJumps
import Derived.WalkMore
namespace Go.Proofs.YteipiaefamfleaaGreatDoor
open Go.RowKit Go.Maps Go.WideMaps

theorem wp_scope_jumps2 {P : Program} {a : Act} {w : World} {Q : Exit → Act → World → Prop} {c rest : Code} (l : Nat) (J : Act → World → Prop) (μ : Act → World → Nat) (hf : findLabel c l = some (.seq .skip rest))
    (pass : ∀ a w, J a w → rest.wp P (Exit.jump l (fun a' w' => J a' w' ∧ μ a' w' < μ a w) Q) a w)
    (first : (∀ a w, J a w → rest.wp P (Exit.jump l J Q) a w) → c.wp P (Exit.jump l J Q) a w) : (Code.scope c).wp P Q a w := by
  refine wp_scope_jumps l J μ hf (first fun a w h => wp_mono (pass a w h) ?_) fun a w h => wp_seq (wp_skip (pass a w h))
  intro e a' w' h
  cases e with
  | goto l' => exact ⟨h.1, h.2.1⟩
  | _ => exact h
theorem PairsAt.form {w : World} {B : Nat} {v : Value} {l : List (ByteArray × ByteArray)} (h : PairsAt w B v l) : ∃ q m c, v = .slice q m c := by
  rcases h.2 with ⟨rfl, _⟩ | ⟨g, c, cur, rfl, _⟩
  · exact ⟨_, _, _, rfl⟩
  · exact ⟨_, _, _, rfl⟩
/-- What holds at the label. -/
def TagJ (t n : ByteArray) (b off cap R : Nat) (r : Except Nat (Tok × Nat)) (w0 w : World) (a' : Act) (W : World) : Prop := ∃ (u1 u8 u9 u10 u11 u12 u13 u14 u15 u16 u17 u18 u19 u20 u21 u22 u23 u24 u25 u26 u27 u28 u29 u30 u31 u32 u33 u34 u35 u36 u37 u38 u39 u40 u41 u42 u43 u44 u45 u46 u47 u48 u49 u50 u51 u52 u53 u54 u55 u56 u57 u58 u59 u60 u61 u62 u63 : Value) (G M j f : Nat) (pv : Value) (ps : List (ByteArray × ByteArray)), a' = { tmps := #[.pointer (some ⟨R, 0, none⟩), u1, .pointer (some ⟨w.heap.size, 0, none⟩), .int .i64 0, .string n, .int .i64 0, .pointer (some ⟨G, 0, none⟩), .map (some M), u8, u9, u10, u11, u12, u13, u14, u15, u16, u17, u18, u19, u20, u21, u22, u23, u24, u25, u26, u27, u28, u29, u30, u31, u32, u33, u34, u35, u36, u37, u38, u39, u40, u41, u42, u43, u44, u45, u46, u47, u48, u49, u50, u51, u52, u53, u54, u55, u56, u57, u58, u59, u60, u61, u62, u63], defers := [] } ∧ Opn w0 w W R b off cap t n 2 j G M pv ps ∧ j ≤ t.size ∧ ps.length ≤ j ∧ t.size < j + f ∧ tagGo t n f j ps = r
theorem opn_start {w0 w w2 : World} {R b off cap i : Nat} {t n : ByteArray} (S : St TOK0 w0 w w2 R b off cap t i) :
    Opn w0 w ((w2.alloc (.cells #[.int .i64 2, .int .i64 0, .string n, .slice none 0 0, .string ⟨#[]⟩, .int .i64 0] 31)).alloc (.map #[] 0)) R b off cap t n 2 i w2.heap.size (w2.heap.size + 1) (.slice none 0 0) [] := by
  have hz : ∀ o, (w2.alloc o).heap.size = w2.heap.size + 1 := fun o => by simp
  have hm := World.ownsMap_made (w2.alloc (.cells #[.int .i64 2, .int .i64 0, .string n, .slice none 0 0, .string ⟨#[]⟩, .int .i64 0] 31)) Tryz.prog 9 (unitElem (H := Unit))
  rw [hz] at hm
  refine ⟨(S.after (World.grownBy_alloc _ _ none) (fun _ e => by cases e)).after (World.grownBy_alloc _ _ none) (fun _ e => by cases e), ?_, S.le, PairsAt.nil _ _, by rw [setP_nil]; exact hm, by have := S.le; omega⟩
  exact (heap_alloc_old _ _ (by rw [hz]; omega)).trans (heap_alloc_new w2 _)
theorem Opn.lone {w0 w W : World} {R b off cap j G M : Nat} {t n : ByteArray} {pv : Value} {ps : List (ByteArray × ByteArray)} (o : Opn w0 w W R b off cap t n 2 j G M pv ps) : Opn w0 w (W.setCell ⟨G, 0, none⟩ (.int .i64 4)) R b off cap t n 4 j G M pv ps := by
  obtain ⟨r, g⟩ := setCell_row (k := 0) (.int .i64 4) o.row
  have hM : some M ≠ some G := by
    intro e
    injection e with e
    obtain ⟨es, cl, hb, _⟩ := o.map
    rw [e, o.row] at hb
    cases hb
  exact ⟨o.st.after g (fun k e => by injection e with e; have := o.gl; omega), r, o.gl, o.prs.kept g (.inr (o.prs.ne o.row (fun cs e => by injection e with _ e2 _; cases e2))), o.map.kept g hM, o.ml⟩
theorem pair_err_ne {t : ByteArray} {k e : Nat} (h : pairF t k = .error e) : e ≠ 0 := by
  unfold pairF at h
  split at h
  · rename_i e' hn
    injection h with h
    rcases qual_err hn with g | g <;> omega
  · split at h
    · injection h with h; omega
    · split at h
      · injection h with h; omega
      · rename_i raw m _
        split at h
        · cases h
        · rename_i hr
          injection h with h
          have := readV_nn raw
          omega
theorem Opn.gm {w0 w W : World} {R b off cap j G M : Nat} {t n : ByteArray} {kind : Int} {pv : Value} {ps : List (ByteArray × ByteArray)} (o : Opn w0 w W R b off cap t n kind j G M pv ps) : G ≠ M := by
  intro e
  obtain ⟨es, cl, hb, _⟩ := o.map
  rw [← e, o.row] at hb
  cases hb
theorem Opn.pm {w0 w W : World} {R b off cap j G M : Nat} {t n : ByteArray} {kind : Int} {pv : Value} {ps : List (ByteArray × ByteArray)} (o : Opn w0 w W R b off cap t n kind j G M pv ps) : pv.ownBlock ≠ some M := by
  obtain ⟨es, cl, hb, _⟩ := o.map
  exact o.prs.ne hb (fun cs e => by cases e)
theorem Opn.bm {w0 w W : World} {R b off cap j G M P : Nat} {t n : ByteArray} {kind : Int} {pv : Value} {ps : List (ByteArray × ByteArray)} {cs : Array Value} {T : TypeId} (o : Opn w0 w W R b off cap t n kind j G M pv ps) (h : W.heap[P]? = some (.cells cs T)) : P ≠ M := by
  intro e
  obtain ⟨es, cl, hb, _⟩ := o.map
  rw [← e, h] at hb
  cases hb
theorem old_row {w : World} {P : Nat} {o : Obj} (x : Obj) (h : w.heap[P]? = some o) : (w.alloc x).heap[P]? = some o :=
  (heap_alloc_old _ _ (Array.getElem?_eq_some_iff.1 h).1).trans h
theorem opn_next {w0 w W : World} {R b off cap j G M : Nat} {t n : ByteArray} {pv0 pv : Value} {ps : List (ByteArray × ByteArray)} {x : ByteArray × ByteArray} (S : St TOK0 w0 w W R b off cap t j)
    (r : W.heap[G]? = some (.cells #[.int .i64 2, .int .i64 0, .string n, pv0, .string ⟨#[]⟩, .int .i64 0] 31)) (gl : w.heap.size < G) (p : PairsAt W (w.heap.size + 1) pv (ps ++ [x]))
    (m : W.ownsMap Tryz.prog 9 (unitElem (H := Unit)) M (ps.length + 1) ((setP ps).put (.string x.1.data.toList) (.agg []))) (ml : w.heap.size < M) (hG : G ≠ M) :
    Opn w0 w (W.setCell ⟨G, 3, none⟩ pv) R b off cap t n 2 j G M pv (ps ++ [x]) := by
  obtain ⟨r', g⟩ := setCell_row (k := 3) pv r
  refine ⟨S.after g (fun k e => by injection e with e; omega), r', gl, World.ownsRow.kept p g (.inr (p.ne r (fun cs e => by injection e with _ e2 _; cases e2))), ?_, ml⟩
  rw [setP_snoc, List.length_append]
  exact m.kept g (fun e => by injection e with e; exact hG e.symm)
set_option maxRecDepth 100000 in
set_option maxHeartbeats 8000000 in
theorem opening_good (t : ByteArray) (b off cap R k : Nat) (w0 w : World) (E : Env w0 R b off cap t) (hB : Below w0.heap.size w0 w) (h : Rd w R (rv b off cap t) k) (hk : k ≤ t.size) (n : ByteArray) (i : Nat) (r : Except Nat (Tok × Nat)) (hn : qualF t k = .ok (n, i)) (hr0 : tagGo t n (t.size + 1) i [] = r) :
    Calls Tryz.prog 32 #[.pointer (some ⟨R, 0, none⟩)] w fun e w' => TokPost R b off cap t w r e w' ∧ Moved R w w' := by
  have Q := Lib.hid (fun W g (y : Below w0.heap.size w0 W) => (qual_any t b off cap R k w0 W E y g hk).mono fun _ _ z => And.intro (qual_post hn z.1) z.2)
  have HE := Lib.hid (And.intro E (And.intro hB h))
  have hi := (name_ok (qual_ok hn).1).2.1
  have HR0 := Lib.hid hr0
  clear h E hB hn hr0
  have hmm := @run_makeMap Tryz.prog
  go_enter Tryz.func32, Tryz.ntmps32
  go_wp2_with (fail)
  refine wp_scope_jumps2 0 (TagJ t n b off cap R r w0 w) (fun _ W => t.size - placeOf W R) rfl ?_ ?_
  · rintro a9 W ⟨u1, u8, u9, u10, u11, u12, u13, u14, u15, u16, u17, u18, u19, u20, u21, u22, u23, u24, u25, u26, u27, u28, u29, u30, u31, u32, u33, u34, u35, u36, u37, u38, u39, u40, u41, u42, u43, u44, u45, u46, u47, u48, u49, u50, u51, u52, u53, u54, u55, u56, u57, u58, u59, u60, u61, u62, u63, G, M, j, f, pv, ps, rfl, o, hj, hps, hf, hgo⟩
    obtain ⟨f, rfl⟩ : ∃ f1, f = f1 + 1 := ⟨f - 1, by omega⟩
    have hw := white_le hj
    have hwg := white_ge t j
    have BL := Lib.hid (blanks_any t b off cap R j W o.st.rd hj o.st.txt o.st.env.ne)
    have hpl := o.st.rd.placeOf
    obtain ⟨q, m, c, rfl⟩ := o.prs.form
    have O := Lib.hid o
    have HG := Lib.hid (And.intro hps (And.intro hf (And.intro hgo (And.intro hpl hwg))))
    clear o hps hf hgo hpl hwg
    have hgo2 := HG.out.2.2.1
    unfold tagGo at hgo2
    go_wp2_with (fail)
    refine BL.out.mono ?_
    rintro e w2 ⟨rfl, hr, hm⟩
    have O2 := Lib.hid (O.out.moved hr hm)
    clear hr hm
    cases hs : seesB t (whiteTo t j) [62]
    · rw [if_neg (by rw [hs]; simp)] at hgo2
      go_wp2_with (fail)
      refine (take_no t ⟨#[62]⟩ b off cap R (whiteTo t j) w2 O2.out.st.rd hw O2.out.st.txt hs).mono ?_
      rintro e w3 ⟨rfl, hr, hm⟩
      have O3 := Lib.hid (O2.out.moved hr hm)
      clear hr hm
      cases hs2 : seesB t (whiteTo t j) [47, 62]
      · rw [if_neg (by rw [hs2]; simp)] at hgo2
        go_wp2_with (fail)
        refine (take_no t ⟨#[47, 62]⟩ b off cap R (whiteTo t j) w3 O3.out.st.rd hw O3.out.st.txt hs2).mono ?_
        rintro e w4 ⟨rfl, hr, hm⟩
        have O4 := Lib.hid (O3.out.moved hr hm)
        clear hr hm
        by_cases hgap : j < whiteTo t j
        · have hgb : decide (j < whiteTo t j) = true := decide_eq_true hgap
          rw [if_neg (by omega)] at hgo2
          have HGP := Lib.hid hgap
          clear hgap
          cases hpr : pairF t (whiteTo t j) with
          | error e0 =>
            have PR : Calls Tryz.prog 49 #[.pointer (some ⟨R, 0, none⟩)] w4 (fun e w' => e = .returned (.tuple #[.agg #[.string ⟨#[]⟩, .string ⟨#[]⟩], .int .i64 (e0 : Int)]) ∧ Moved R w4 w') := (pair_any t b off cap R (whiteTo t j) w0 w4 O4.out.st.env O4.out.st.below O4.out.st.rd hw).mono (fun _ _ z => by
              rw [hpr] at z
              exact z)
            rw [hpr] at hgo2
            simp only at hgo2
            have hne := pair_err_ne hpr
            have hnb : ((e0 : Int) == 0) = false := by rw [beq_eq_false_iff_ne]; omega
            have hnz : ¬ (e0 : Int) = 0 := by omega
            have HGO := Lib.hid hgo2
            have PRH := Lib.hid PR
            clear hgo2 PR hpr hne
            go_wp2_with (fail)
            refine PRH.out.mono ?_
            rintro e w5 ⟨rfl, hm⟩
            have row5 := (hm.block _ O4.out.st.le (fun e => by injection e with e; have := O4.out.st.lt; omega)).trans O4.out.st.out
            have mv5 := O4.out.st.mv.trans hm
            go_upto_region 15 with fail
            obtain ⟨W6, hW6⟩ : ∃ W, w5.alloc (.cells #[.string ⟨#[]⟩, .string ⟨#[]⟩] 44) = W := ⟨_, rfl⟩
            have row6 := old_row (.cells #[.string ⟨#[]⟩, .string ⟨#[]⟩] 44) row5
            have mv6 := mv5.trans (Moved.of_below ((Below.refl w5.heap.size w5).alloc (Nat.le_refl _) (.cells #[.string ⟨#[]⟩, .string ⟨#[]⟩] 44)))
            rw [hW6] at row6 mv6 ⊢
            have RW6 := Lib.hid row6
            have MV6 := Lib.hid mv6
            clear row5 mv5 row6 mv6 hW6 hm
            obtain ⟨⟨c0, c1, c2, c3, c4, c5⟩, ⟨f0, f1, f2, f3, f4, f5⟩⟩ := six_cells RW6.out
            go_wp2_with (fail)
            simp only [Exit.jump]
            change bodyPost _ _ _ _ _ (setTok W6 w.heap.size 0 0 ⟨#[]⟩ (.slice none 0 0) ⟨#[]⟩ 0)
            obtain ⟨w9, hw9⟩ : ∃ W, setTok W6 w.heap.size 0 0 ⟨#[]⟩ (.slice none 0 0) ⟨#[]⟩ 0 = W := ⟨_, rfl⟩
            obtain ⟨r9, m9⟩ := setTok_row 0 0 ⟨#[]⟩ (.slice none 0 0) ⟨#[]⟩ 0 RW6.out
            rw [hw9] at r9 m9 ⊢
            obtain ⟨⟨d0, d1, d2, d3, d4, d5⟩, _⟩ := six_cells r9
            refine bodyPost_ret (v := .tuple #[tokV 0 0 ⟨#[]⟩ (.slice none 0 0) ⟨#[]⟩ 0, .int .i64 (e0 : Int)]) ?_ rfl ?_
            · rw [results_cell_tmp rfl]
              go_simp
            · rw [← HGO.out]
              exact ⟨rfl, MV6.out.past m9 (Nat.le_refl _)⟩
          | ok x =>
            obtain ⟨p, m1⟩ := x
            have PR : Calls Tryz.prog 49 #[.pointer (some ⟨R, 0, none⟩)] w4 (fun e w' => (e = .returned (.tuple #[.agg #[.string p.1, .string p.2], .int .i64 0]) ∧ Rd w' R (rv b off cap t) m1) ∧ Moved R w4 w') := (pair_any t b off cap R (whiteTo t j) w0 w4 O4.out.st.env O4.out.st.below O4.out.st.rd hw).mono (fun _ _ z => by
              rw [hpr] at z
              exact z)
            rw [hpr] at hgo2
            simp only at hgo2
            obtain ⟨b1, b2, b3, b4⟩ := pair_bd hpr
            have hsm := O4.out.st.env.txt.small
            have PRH := Lib.hid PR
            have HPB := Lib.hid (And.intro b1 b2)
            have KEY := Lib.hid (key_str p.1 (by omega))
            clear PR hpr b1 b2 b3 b4
            go_wp2_with (fail)
            refine PRH.out.mono ?_
            rintro e w5 ⟨⟨rfl, hr⟩, hm⟩
            have O5 := Lib.hid (O4.out.moved hr hm)
            clear hr hm
            go_upto_region 15 with fail
            obtain ⟨W6, hW6⟩ : ∃ W, w5.alloc (.cells #[.string p.1, .string p.2] 44) = W := ⟨_, rfl⟩
            have O6 := O5.out.alloc (.cells #[.string p.1, .string p.2] 44)
            have rp6 : (w5.alloc (.cells #[.string p.1, .string p.2] 44)).heap[w5.heap.size]? = some (.cells #[.string p.1, .string p.2] 44) := heap_alloc_new w5 _
            rw [hW6] at O6 rp6 ⊢
            have HO6 := Lib.hid O6
            have RP6 := Lib.hid rp6
            clear O6 rp6 hW6
            obtain ⟨⟨g0, g1⟩, ⟨h0, h1⟩⟩ := two_cells RP6.out
            cases hany : ps.any (fun q => decide (q.1 = p.1))
            · rw [hany, if_neg (by simp)] at hgo2
              have HGO := Lib.hid hgo2
              clear hgo2
              have hhas := (has_setP ps p.1).trans hany
              clear hany
              go_upto_region 18 with (at_lookup; refine wpList_lookup_own_unit _ rfl _ _ 71 rfl 9 74 lawStr Tryz.underlying71 (zeroUnit _) M ps.length _ rfl HO6.out.map _ _ rfl KEY.out ?_)
              clear hhas
              obtain ⟨W7, hW7⟩ : ∃ W, W6.alloc (.cells #[] 74) = W := ⟨_, rfl⟩
              have o7 := HO6.out.alloc (.cells #[] 74)
              have rp7 := old_row (.cells #[] 74) RP6.out
              rw [hW7] at o7 rp7 ⊢
              have O7 := Lib.hid o7
              have RP7 := Lib.hid rp7
              clear o7 rp7 hW7 g0 g1 h0 h1
              obtain ⟨⟨g0, g1⟩, _⟩ := two_cells RP7.out
              have hpl : ps.length < maxLen := by
                have := HG.out.1
                unfold maxLen
                omega
              have HPL := Lib.hid hpl
              clear hpl
              go_upto_region 21 with (at_mapUpdate; refine wpList_mapUpdate_own _ rfl _ _ _ 71 rfl 9 74 lawStr Tryz.underlying71 (unitElem (H := Unit)) M ps.length _ rfl O7.out.map HPL.out _ _ _ rfl rfl KEY.out _ [] unitElem_mk ?_; intro w8 hown8 hg8)
              have hml := O7.out.ml
              have s8 := O7.out.st.after hg8 (fun k e => by injection e with e; omega)
              have r8 := (hg8.block G (Array.getElem?_eq_some_iff.1 O7.out.row).1 (fun e => by injection e with e; exact O7.out.gm e)).trans O7.out.row
              have p8 : PairsAt w8 _ _ _ := World.ownsRow.kept O7.out.prs hg8 (.inr O7.out.pm)
              have rp8 := (hg8.block w5.heap.size (Array.getElem?_eq_some_iff.1 RP7.out).1 (fun e => by injection e with e; exact O7.out.bm RP7.out e)).trans RP7.out
              have S8 := Lib.hid s8
              have R8 := Lib.hid r8
              have P8 := Lib.hid p8
              have RP8 := Lib.hid rp8
              have M8 := Lib.hid hown8
              clear s8 r8 p8 rp8 hown8 hg8 g0 g1 hml
              obtain ⟨⟨e0, e1, e2, e3, e4, e5⟩, _⟩ := six_cells R8.out
              obtain ⟨⟨g0, g1⟩, _⟩ := two_cells RP8.out
              have s9 := S8.out.after (World.grownBy_alloc w8 (.cells #[.string p.1, .string p.2] 44) none) (fun k e => by cases e)
              have r9 := old_row (.cells #[.string p.1, .string p.2] 44) R8.out
              have p9 : PairsAt (w8.alloc (.cells #[.string p.1, .string p.2] 44)) _ _ _ := World.ownsRow.alloc P8.out _
              have n9 := heap_alloc_new w8 (.cells #[.string p.1, .string p.2] 44)
              have m9 := M8.out.alloc (.cells #[.string p.1, .string p.2] 44)
              have hpl := HG.out.1
              obtain ⟨v', w10, hrun, p10, hg10⟩ := append_pair p9 n9 (by have := s9.le; omega) (by omega)
              obtain ⟨q', m', c', rfl⟩ := p10.form
              have hlt9 := p9.lt
              have s10 := s9.after hg10 (fun k e => (hlt9 k e).1)
              have r10 := (hg10.block G (Array.getElem?_eq_some_iff.1 r9).1 (fun e => p9.ne r9 (fun cs e => by injection e with _ e2 _; cases e2) e.symm)).trans r9
              have m10 := m9.kept hg10 (fun e => by
                obtain ⟨es, cl, hb, _⟩ := m9
                exact p9.ne hb (fun cs e => by cases e) e.symm)
              have OX := Lib.hid (opn_next s10 r10 O7.out.gl p10 m10 O7.out.ml O7.out.gm)
              have R10 := Lib.hid r10
              have RUN := Lib.hid hrun
              clear s9 r9 p9 n9 m9 hrun p10 hg10 hlt9 s10 r10 m10 hpl
              obtain ⟨⟨a0, a1, a2, a3, a4, a5⟩, ⟨f0, f1, f2, f3, f4, f5⟩⟩ := six_cells R10.out
              go_wp2_with (at_builtin; refine wpList_append_eq rfl (.tmp 59) (.tmp 61) 29 rfl _ _ _ _ rfl rfl RUN.out ?_)
              go_step3
              refine ⟨rfl, ⟨_, _, _, _, _, _, _, _, _, _, _, _, _, _, _, _, _, _, _, _, _, _, _, _, _, _, _, _, _, _, _, _, _, _, _, _, _, _, _, _, _, _, _, _, _, _, _, _, _, _, _, _, _, _, _, _, _, G, M, m1, f, .slice q' m' c', ps ++ [p], rfl, OX.out, HPB.out.2, ?_, ?_, HGO.out⟩, ?_⟩
              · have h1 := HG.out.1
                have h2 := HPB.out.1
                have h3 := HG.out.2.2.2.2
                rw [List.length_append]
                simp only [List.length_cons, List.length_nil]
                omega
              · have h1 := HG.out.2.1
                have h2 := HPB.out.1
                have h3 := HG.out.2.2.2.2
                omega
              · rw [OX.out.st.rd.placeOf, HG.out.2.2.2.1]
                have h1 := HPB.out
                have h3 := HG.out.2.2.2.2
                omega
            · rw [hany, if_pos rfl] at hgo2
              have HGO := Lib.hid hgo2
              clear hgo2
              have hhas := (has_setP ps p.1).trans hany
              clear hany
              go_upto_region 18 with (at_lookup; refine wpList_lookup_own_unit _ rfl _ _ 71 rfl 9 74 lawStr Tryz.underlying71 (zeroUnit _) M ps.length _ rfl HO6.out.map _ _ rfl KEY.out ?_)
              clear hhas
              obtain ⟨W7, hW7⟩ : ∃ W, W6.alloc (.cells #[] 74) = W := ⟨_, rfl⟩
              have o7 := HO6.out.alloc (.cells #[] 74)
              have rp7 := old_row (.cells #[] 74) RP6.out
              rw [hW7] at o7 rp7 ⊢
              have O7 := Lib.hid o7
              have RP7 := Lib.hid rp7
              clear o7 rp7 hW7 g0 g1 h0 h1
              obtain ⟨⟨c0, c1, c2, c3, c4, c5⟩, ⟨f0, f1, f2, f3, f4, f5⟩⟩ := six_cells O7.out.st.out
              go_wp2_with (fail)
              simp only [Exit.jump]
              change bodyPost _ _ _ _ _ (setTok W7 w.heap.size 0 0 ⟨#[]⟩ (.slice none 0 0) ⟨#[]⟩ 0)
              obtain ⟨w9, hw9⟩ : ∃ W, setTok W7 w.heap.size 0 0 ⟨#[]⟩ (.slice none 0 0) ⟨#[]⟩ 0 = W := ⟨_, rfl⟩
              obtain ⟨r9, m9⟩ := setTok_row 0 0 ⟨#[]⟩ (.slice none 0 0) ⟨#[]⟩ 0 O7.out.st.out
              rw [hw9] at r9 m9 ⊢
              obtain ⟨⟨d0, d1, d2, d3, d4, d5⟩, _⟩ := six_cells r9
              refine bodyPost_ret (v := .tuple #[tokV 0 0 ⟨#[]⟩ (.slice none 0 0) ⟨#[]⟩ 0, .int .i64 27]) ?_ rfl ?_
              · rw [results_cell_tmp rfl]
                go_simp
              · obtain ⟨z1, z2⟩ := O7.out.st.laid m9
                rw [← HGO.out]
                exact ⟨rfl, z2⟩
        · have hgb : decide (j < whiteTo t j) = false := decide_eq_false hgap
          rw [if_pos (by have := white_ge t j; omega)] at hgo2
          have HGO := Lib.hid hgo2
          clear hgo2 hgap
          obtain ⟨⟨c0, c1, c2, c3, c4, c5⟩, ⟨f0, f1, f2, f3, f4, f5⟩⟩ := six_cells O4.out.st.out
          go_wp2_with (fail)
          simp only [Exit.jump]
          change bodyPost _ _ _ _ _ (setTok w4 w.heap.size 0 0 ⟨#[]⟩ (.slice none 0 0) ⟨#[]⟩ 0)
          obtain ⟨w9, hw9⟩ : ∃ W, setTok w4 w.heap.size 0 0 ⟨#[]⟩ (.slice none 0 0) ⟨#[]⟩ 0 = W := ⟨_, rfl⟩
          obtain ⟨r9, m9⟩ := setTok_row 0 0 ⟨#[]⟩ (.slice none 0 0) ⟨#[]⟩ 0 O4.out.st.out
          rw [hw9] at r9 m9 ⊢
          obtain ⟨⟨d0, d1, d2, d3, d4, d5⟩, _⟩ := six_cells r9
          refine bodyPost_ret (v := .tuple #[tokV 0 0 ⟨#[]⟩ (.slice none 0 0) ⟨#[]⟩ 0, .int .i64 23]) ?_ rfl ?_
          · rw [results_cell_tmp rfl]
            go_simp
          · obtain ⟨z1, z2⟩ := O4.out.st.laid m9
            rw [← HGO.out]
            exact ⟨rfl, z2⟩
      · rw [if_pos hs2] at hgo2
        have HGO := Lib.hid hgo2
        clear hgo2
        go_wp2_with (fail)
        refine (take_yes t ⟨#[47, 62]⟩ b off cap R (whiteTo t j) w3 O3.out.st.rd hw O3.out.st.txt (by decide) hs2).mono ?_
        rintro e w4 ⟨rfl, hr, hm⟩
        have O4 := Lib.hid (O3.out.moved hr hm)
        clear hr hm
        obtain ⟨⟨e0, e1, e2, e3, e4, e5⟩, ⟨g0, g1, g2, g3, g4, g5⟩⟩ := six_cells O4.out.row
        go_upto_region 11 with fail
        clear e0 e1 e2 e3 e4 e5 g0 g1 g2 g3 g4 g5
        obtain ⟨w5, hw5⟩ : ∃ W, w4.setCell ⟨G, 0, none⟩ (.int .i64 4) = W := ⟨_, rfl⟩
        have o5 := O4.out.lone
        rw [hw5] at o5 ⊢
        have O5 := Lib.hid o5
        clear o5 hw5
        obtain ⟨⟨c0, c1, c2, c3, c4, c5⟩, ⟨f0, f1, f2, f3, f4, f5⟩⟩ := six_cells O5.out.st.out
        obtain ⟨⟨e0, e1, e2, e3, e4, e5⟩, _⟩ := six_cells O5.out.row
        go_wp2_with (fail)
        simp only [Exit.jump]
        change bodyPost _ _ _ _ _ (setTok w5 w.heap.size 4 0 n (.slice q m c) ⟨#[]⟩ 0)
        obtain ⟨w9, hw9⟩ : ∃ W, setTok w5 w.heap.size 4 0 n (.slice q m c) ⟨#[]⟩ 0 = W := ⟨_, rfl⟩
        obtain ⟨r9, m9⟩ := setTok_row 4 0 n (.slice q m c) ⟨#[]⟩ 0 O5.out.st.out
        rw [hw9] at r9 m9 ⊢
        obtain ⟨⟨d0, d1, d2, d3, d4, d5⟩, _⟩ := six_cells r9
        refine bodyPost_ret (v := .tuple #[tokV 4 0 n (.slice q m c) ⟨#[]⟩ 0, .int .i64 0]) ?_ rfl ?_
        · rw [results_cell_tmp rfl]
          go_simp
        · obtain ⟨z1, z2⟩ := O5.out.st.laid m9
          rw [← HGO.out]
          exact ⟨⟨(.slice q m c), rfl, PairsAt.less (World.ownsRow.kept O5.out.prs m9 (.inr (O5.out.prs.ne O5.out.st.out (fun cs e => by injection e with _ e2 _; cases e2)))) (Nat.le_succ _), z1⟩, z2⟩
    · rw [if_pos hs] at hgo2
      have HGO := Lib.hid hgo2
      clear hgo2
      go_wp2_with (fail)
      refine (take_yes t ⟨#[62]⟩ b off cap R (whiteTo t j) w2 O2.out.st.rd hw O2.out.st.txt (by decide) hs).mono ?_
      rintro e w3 ⟨rfl, hr, hm⟩
      have O3 := Lib.hid (O2.out.moved hr hm)
      clear hr hm
      obtain ⟨⟨c0, c1, c2, c3, c4, c5⟩, ⟨f0, f1, f2, f3, f4, f5⟩⟩ := six_cells O3.out.st.out
      obtain ⟨⟨e0, e1, e2, e3, e4, e5⟩, _⟩ := six_cells O3.out.row
      go_wp2_with (fail)
      simp only [Exit.jump]
      change bodyPost _ _ _ _ _ (setTok w3 w.heap.size 2 0 n (.slice q m c) ⟨#[]⟩ 0)
      obtain ⟨w9, hw9⟩ : ∃ W, setTok w3 w.heap.size 2 0 n (.slice q m c) ⟨#[]⟩ 0 = W := ⟨_, rfl⟩
      obtain ⟨r9, m9⟩ := setTok_row 2 0 n (.slice q m c) ⟨#[]⟩ 0 O3.out.st.out
      rw [hw9] at r9 m9 ⊢
      obtain ⟨⟨d0, d1, d2, d3, d4, d5⟩, _⟩ := six_cells r9
      refine bodyPost_ret (v := .tuple #[tokV 2 0 n (.slice q m c) ⟨#[]⟩ 0, .int .i64 0]) ?_ rfl ?_
      · rw [results_cell_tmp rfl]
        go_simp
      · obtain ⟨z1, z2⟩ := O3.out.st.laid m9
        rw [← HGO.out]
        exact ⟨⟨(.slice q m c), rfl, PairsAt.less (World.ownsRow.kept O3.out.prs m9 (.inr (O3.out.prs.ne O3.out.st.out (fun cs e => by injection e with _ e2 _; cases e2)))) (Nat.le_succ _), z1⟩, z2⟩
  · intro hp
    go_wp2_with (fail)
    obtain ⟨W1, hW1⟩ : ∃ W, w.alloc TOK0 = W := ⟨_, rfl⟩
    rw [hW1]
    have S1 := Lib.hid (St.first HE.out.1 HE.out.2.1 HE.out.2.2 hW1)
    clear hW1
    refine (Q.out W1 S1.out.rd S1.out.below).mono ?_
    rintro e w2 ⟨⟨rfl, hr⟩, hm⟩
    have S2 := Lib.hid (S1.out.moved hr hm)
    clear hr hm
    go_wp2_with (fail)
    go_step3
    rename_i hK
    refine hK _ _ (hp _ _ ?_)
    refine ⟨_, _, _, _, _, _, _, _, _, _, _, _, _, _, _, _, _, _, _, _, _, _, _, _, _, _, _, _, _, _, _, _, _, _, _, _, _, _, _, _, _, _, _, _, _, _, _, _, _, _, _, _, _, _, _, _, _, w2.heap.size, w2.heap.size + 1, i, t.size + 1, .slice none 0 0, [], rfl, ?_, hi, Nat.zero_le _, by omega, HR0.out⟩
    exact opn_start S2.out
set_option maxHeartbeats 1000000 in
theorem opening_name23 (t : ByteArray) (b off cap R k : Nat) (w0 w : World) (E : Env w0 R b off cap t) (hB : Below w0.heap.size w0 w) (h : Rd w R (rv b off cap t) k) (hk : k ≤ t.size) (hn : qualF t k = .error 23) :
    Calls Tryz.prog 32 #[.pointer (some ⟨R, 0, none⟩)] w fun e w' => e = .returned (.tuple #[tokV 0 0 ⟨#[]⟩ (.slice none 0 0) ⟨#[]⟩ 0, .int .i64 23]) ∧ Moved R w w' := by
  have Q := Lib.hid (fun W g (y : Below w0.heap.size w0 W) => (qual_any t b off cap R k w0 W E y g hk).mono fun _ _ z => And.intro (qual_post_no hn z.1) z.2)
  have HE := Lib.hid (And.intro E (And.intro hB h))
  clear h E hB hn
  go_enter Tryz.func32, Tryz.ntmps32
  go_wp2_with (fail)
  obtain ⟨W1, hW1⟩ : ∃ W, w.alloc TOK0 = W := ⟨_, rfl⟩
  rw [hW1]
  have S1 := Lib.hid (St.first HE.out.1 HE.out.2.1 HE.out.2.2 hW1)
  clear hW1
  go_step3
  go_wp2_with (fail)
  refine (Q.out W1 S1.out.rd S1.out.below).mono ?_
  rintro e w2 ⟨⟨rfl, j, hj, hr⟩, hm⟩
  have S2 := Lib.hid (S1.out.moved hr hm)
  clear hr hm
  obtain ⟨⟨c0, c1, c2, c3, c4, c5⟩, ⟨f0, f1, f2, f3, f4, f5⟩⟩ := six_cells S2.out.out
  go_wp2_with (fail)
  try rw [Exit.noGoto_ret]
  change bodyPost _ _ _ _ _ (setTok w2 w.heap.size 0 0 ⟨#[]⟩ (.slice none 0 0) ⟨#[]⟩ 0)
  obtain ⟨w9, hw9⟩ : ∃ W, setTok w2 w.heap.size 0 0 ⟨#[]⟩ (.slice none 0 0) ⟨#[]⟩ 0 = W := ⟨_, rfl⟩
  obtain ⟨r9, m9⟩ := setTok_row 0 0 ⟨#[]⟩ (.slice none 0 0) ⟨#[]⟩ 0 S2.out.out
  rw [hw9] at r9 m9 ⊢
  obtain ⟨⟨d0, d1, d2, d3, d4, d5⟩, _⟩ := six_cells r9
  refine bodyPost_ret (v := .tuple #[tokV 0 0 ⟨#[]⟩ (.slice none 0 0) ⟨#[]⟩ 0, .int .i64 23]) ?_ rfl ?_
  · rw [results_cell_tmp rfl]
    go_simp
  · obtain ⟨z1, z2⟩ := S2.out.laid m9
    exact ⟨rfl, z2⟩
set_option maxHeartbeats 1000000 in
theorem opening_name24 (t : ByteArray) (b off cap R k : Nat) (w0 w : World) (E : Env w0 R b off cap t) (hB : Below w0.heap.size w0 w) (h : Rd w R (rv b off cap t) k) (hk : k ≤ t.size) (hn : qualF t k = .error 24) :
    Calls Tryz.prog 32 #[.pointer (some ⟨R, 0, none⟩)] w fun e w' => e = .returned (.tuple #[tokV 0 0 ⟨#[]⟩ (.slice none 0 0) ⟨#[]⟩ 0, .int .i64 24]) ∧ Moved R w w' := by
  have Q := Lib.hid (fun W g (y : Below w0.heap.size w0 W) => (qual_any t b off cap R k w0 W E y g hk).mono fun _ _ z => And.intro (qual_post_no hn z.1) z.2)
  have HE := Lib.hid (And.intro E (And.intro hB h))
  clear h E hB hn
  go_enter Tryz.func32, Tryz.ntmps32
  go_wp2_with (fail)
  obtain ⟨W1, hW1⟩ : ∃ W, w.alloc TOK0 = W := ⟨_, rfl⟩
  rw [hW1]
  have S1 := Lib.hid (St.first HE.out.1 HE.out.2.1 HE.out.2.2 hW1)
  clear hW1
  go_step3
  go_wp2_with (fail)
  refine (Q.out W1 S1.out.rd S1.out.below).mono ?_
  rintro e w2 ⟨⟨rfl, j, hj, hr⟩, hm⟩
  have S2 := Lib.hid (S1.out.moved hr hm)
  clear hr hm
  obtain ⟨⟨c0, c1, c2, c3, c4, c5⟩, ⟨f0, f1, f2, f3, f4, f5⟩⟩ := six_cells S2.out.out
  go_wp2_with (fail)
  try rw [Exit.noGoto_ret]
  change bodyPost _ _ _ _ _ (setTok w2 w.heap.size 0 0 ⟨#[]⟩ (.slice none 0 0) ⟨#[]⟩ 0)
  obtain ⟨w9, hw9⟩ : ∃ W, setTok w2 w.heap.size 0 0 ⟨#[]⟩ (.slice none 0 0) ⟨#[]⟩ 0 = W := ⟨_, rfl⟩
  obtain ⟨r9, m9⟩ := setTok_row 0 0 ⟨#[]⟩ (.slice none 0 0) ⟨#[]⟩ 0 S2.out.out
  rw [hw9] at r9 m9 ⊢
  obtain ⟨⟨d0, d1, d2, d3, d4, d5⟩, _⟩ := six_cells r9
  refine bodyPost_ret (v := .tuple #[tokV 0 0 ⟨#[]⟩ (.slice none 0 0) ⟨#[]⟩ 0, .int .i64 24]) ?_ rfl ?_
  · rw [results_cell_tmp rfl]
    go_simp
  · obtain ⟨z1, z2⟩ := S2.out.laid m9
    exact ⟨rfl, z2⟩
theorem opening_any (t : ByteArray) (b off cap R k : Nat) (w0 w : World) (E : Env w0 R b off cap t) (hB : Below w0.heap.size w0 w) (h : Rd w R (rv b off cap t) k) (hk : k ≤ t.size) :
    Calls Tryz.prog 32 #[.pointer (some ⟨R, 0, none⟩)] w fun e w' => TokPost R b off cap t w (tagF t k) e w' ∧ Moved R w w' := by
  unfold tagF
  cases hn : qualF t k with
  | error e0 =>
    rcases qual_err hn with rfl | rfl
    · exact (opening_name23 t b off cap R k w0 w E hB h hk hn).mono fun _ _ z => z
    · exact (opening_name24 t b off cap R k w0 w E hB h hk hn).mono fun _ _ z => z
  | ok p =>
    obtain ⟨n, i⟩ := p
    exact opening_good t b off cap R k w0 w E hB h hk n i _ hn rfl
end Go.Proofs.YteipiaefamfleaaGreatDoor
