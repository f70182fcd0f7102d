/- Proved here: the document's Same says whether two trees are the same, wherever they lie. -/
import Derived.Test.YtfmlmdfehaajbaaGreatDoorSameT
namespace Go.Proofs.YtfmlmdfehaajbaaGreatDoor
open Go.RowKit Go.Shelf

theorem Says.of {e : Ending} {P : Prop} {r0 : Bool} (h : Says e P) (h0 : r0 = true ↔ P) : e = .returned (.bool r0) := by
  obtain ⟨r, e1, h1⟩ := h
  rw [e1]
  have : r = r0 := by
    cases r <;> cases r0
    · rfl
    · exact absurd (h1.2 (h0.1 rfl)) (by decide)
    · exact absurd (h0.2 (h1.1 rfl)) (by decide)
    · rfl
  rw [this]
theorem says_of (P : Prop) : ∃ r0 : Bool, (r0 = true ↔ P) := by
  by_cases h : P
  · exact ⟨true, fun _ => h, fun _ => rfl⟩
  · exact ⟨false, fun e => (by cases e), fun e => absurd e h⟩
theorem plain_iff {a b : AT} : a.plain = b.plain ↔ a.kind = b.kind ∧ a.uri = b.uri ∧ a.loc = b.loc ∧ a.text = b.text ∧ a.attrs = b.attrs ∧ a.kids.map AT.plain = b.kids.map AT.plain := by
  constructor
  · intro h
    refine ⟨?_, ?_, ?_, ?_, ?_, ?_⟩
    · rw [← AT.plain_kind, h, AT.plain_kind]
    · rw [← AT.plain_uri, h, AT.plain_uri]
    · rw [← AT.plain_loc, h, AT.plain_loc]
    · rw [← AT.plain_text, h, AT.plain_text]
    · rw [← AT.plain_attrs, h, AT.plain_attrs]
    · rw [← AT.plain_kids, h, AT.plain_kids]
  · rintro ⟨h1, h2, h3, h4, h5, h6⟩
    exact AT.plain_same h1 h2 h3 h5 h4 h6
set_option maxRecDepth 100000 in
set_option maxHeartbeats 8000000 in
theorem same_any : ∀ (a b : AT) (w : World) (pa : Option Addr) (ca : Nat) (pk : Option Addr) (ck : Nat) (qa : Option Addr) (da : Nat) (qk : Option Addr) (dk : Nat), PartsAt w a pa ca pk ck → KidsAt w a → PartsAt w b qa da qk dk → KidsAt w b →
    Calls Tryz.prog 11 #[nodeV a pa ca pk ck, nodeV b qa da qk dk] w fun e W' => Says e (a.plain = b.plain) ∧ Below w.heap.size w W' := fun a => by
  induction a using AT.ind with
  | h a ih =>
    intro b w pa ca pk ck qa da qk dk hP hK hQ hL
    obtain ⟨W1, hW1⟩ : ∃ W1, (w.alloc (.cells (nodeC a pa ca pk ck) 27)).alloc (.cells (nodeC b qa da qk dk) 27) = W1 := ⟨_, rfl⟩
    have hB : Below w.heap.size w W1 := by rw [← hW1]; exact ((Below.refl _ _).alloc (Nat.le_refl _) _).alloc (by simp) _
    have h1 : W1.heap[w.heap.size]? = some (.cells (nodeC a pa ca pk ck) 27 (0, 0)) := by rw [← hW1]; exact (Below.heap_alloc _ _ _ (by simp)).trans (heap_alloc_new _ _)
    have h2 : W1.heap[w.heap.size + 1]? = some (.cells (nodeC b qa da qk dk) 27 (0, 0)) := by
      rw [← hW1]
      have := heap_alloc_new (w.alloc (.cells (nodeC a pa ca pk ck) 27)) (.cells (nodeC b qa da qk dk) 27)
      rwa [World.size_alloc] at this
    have CC := Lib.hid (fun (W : World) (y : Below W1.heap.size W1 W) => And.intro (cell_of_row W w.heap.size 4 _ _ _ ((y.block _ (it_lt h1)).trans h1)) (cell_of_row W (w.heap.size + 1) 4 _ _ _ ((y.block _ (it_lt h2)).trans h2)))
    obtain ⟨ks, hks⟩ : ∃ ks, a.kids = ks := ⟨_, rfl⟩
    obtain ⟨ls, hls⟩ : ∃ ls, b.kids = ls := ⟨_, rfl⟩
    obtain ⟨r0, hr0⟩ := says_of (a.attrs = b.attrs)
    have CA := Lib.hid (fun (W : World) (y : Below W1.heap.size W1 W) => (sameAttrs_any W a.attrs b.attrs pa qa ca da (hP.attrs.stay (Stay.below (hB.trans (y.mono hB.size)))) (hQ.attrs.stay (Stay.below (hB.trans (y.mono hB.size)))) hP.asz hQ.asz hP.acap hQ.acap).mono (R' := fun e W' => e = .returned (.bool r0) ∧ Below W.heap.size W W') (fun e W' q => ⟨q.1.of hr0, q.2⟩))
    have HK := Lib.hid (fun (i : Nat) (hi : i < ks.length) (hj : i < ls.length) => show ∃ kb ko pa1 ca1 pk1 ck1 lb lo qa1 da1 qk1 dk1, pk = some ⟨kb, ko, none⟩ ∧ qk = some ⟨lb, lo, none⟩ ∧ (w.cell? ⟨kb, ko + i * 6, none⟩ = some (.int .i64 ks[i].kind) ∧ w.cell? ⟨kb, ko + i * 6 + 1, none⟩ = some (.string ks[i].uri) ∧
        w.cell? ⟨kb, ko + i * 6 + 2, none⟩ = some (.string ks[i].loc) ∧ w.cell? ⟨kb, ko + i * 6 + 3, none⟩ = some (.slice pa1 ks[i].attrs.length ca1) ∧ w.cell? ⟨kb, ko + i * 6 + 4, none⟩ = some (.slice pk1 ks[i].kids.length ck1) ∧ w.cell? ⟨kb, ko + i * 6 + 5, none⟩ = some (.string ks[i].text)) ∧
        (w.cell? ⟨lb, lo + i * 6, none⟩ = some (.int .i64 ls[i].kind) ∧ w.cell? ⟨lb, lo + i * 6 + 1, none⟩ = some (.string ls[i].uri) ∧ w.cell? ⟨lb, lo + i * 6 + 2, none⟩ = some (.string ls[i].loc) ∧ w.cell? ⟨lb, lo + i * 6 + 3, none⟩ = some (.slice qa1 ls[i].attrs.length da1) ∧
        w.cell? ⟨lb, lo + i * 6 + 4, none⟩ = some (.slice qk1 ls[i].kids.length dk1) ∧ w.cell? ⟨lb, lo + i * 6 + 5, none⟩ = some (.string ls[i].text)) ∧
        ∀ W, Below W1.heap.size W1 W → Calls Tryz.prog 11 #[nodeV ks[i] pa1 ca1 pk1 ck1, nodeV ls[i] qa1 da1 qk1 dk1] W fun e W' => Says e (ks[i].plain = ls[i].plain) ∧ Below W.heap.size W W' from by
      subst hks hls
      obtain ⟨kb, ko, pa1, ca1, pk1, ck1, e1, p1, k1, c⟩ := kid_at hP hK i hi
      obtain ⟨lb, lo, qa1, da1, qk1, dk1, e2, p2, k2, d⟩ := kid_at hQ hL i hj
      exact ⟨kb, ko, pa1, ca1, pk1, ck1, lb, lo, qa1, da1, qk1, dk1, e1, e2, c, d, fun W y => ih _ (List.getElem_mem hi) _ W _ _ _ _ _ _ _ _ (p1.stay (Stay.below (hB.trans (y.mono hB.size)))) (k1.stay (Stay.below (hB.trans (y.mono hB.size)))) (p2.stay (Stay.below (hB.trans (y.mono hB.size)))) (k2.stay (Stay.below (hB.trans (y.mono hB.size))))⟩)
    have hkl := hP.ksz
    have hkc := hP.kcap
    have hll := hQ.ksz
    have hlc := hQ.kcap
    have HC := Lib.hid (fun (W : World) (y : Below w.heap.size w W) (i : Nat) (hi : i < ks.length) (hj : i < ls.length) => y)
    have HF := Lib.hid (plain_iff (a := a) (b := b))
    rw [hks, hls] at HF
    have HBB := Lib.hid hB
    unfold nodeC at hW1 CC
    unfold nodeV at HK ⊢
    rw [hks] at hkl hkc CC hW1 ⊢
    rw [hls] at hll hlc CC hW1 ⊢
    clear hP hK hQ hL ih h1 h2 hB hks hls HC
    generalize a.kind = k1 at *
    generalize a.uri = u1 at *
    generalize a.loc = l1 at *
    generalize a.attrs.length = n1 at *
    generalize a.text = t1 at *
    generalize b.kind = k2 at *
    generalize b.uri = u2 at *
    generalize b.loc = l2 at *
    generalize b.attrs.length = n2 at *
    generalize b.text = t2 at *
    have qN := fun (W : World) => name_neq W u1 l1 u2 l2
    obtain ⟨N, hN⟩ : ∃ N, (u1 == u2 && l1 == l2) = N := ⟨_, rfl⟩
    have HNN : Hid (N = true ↔ u1 = u2 ∧ l1 = l2) := Lib.hid (by rw [← hN, Bool.and_eq_true, beq_eq, beq_eq])
    rw [hN] at qN
    have HR := Lib.hid hr0
    have b0 : Below W1.heap.size W1 ((w.alloc (.cells #[.int .i64 k1, .string u1, .string l1, .slice pa n1 ca, .slice pk ks.length ck, .string t1] 27)).alloc (.cells #[.int .i64 k2, .string u2, .string l2, .slice qa n2 da, .slice qk ls.length dk, .string t2] 27)) := by rw [hW1]; exact Below.refl _ _
    have HB0 := Lib.hid (HBB.out.trans (b0.mono HBB.out.size))
    clear hW1
    have HT := Lib.hid (show ∀ (h : (t1.toList == t2.toList) = false), t1 ≠ t2 from fun h e => by rw [e] at h; simp at h)
    clear hN hr0
    by_cases hk : k1 = k2
    · subst hk
      have hkn : (k1 != k1) = false := by simp
      cases N
      · have HQ : Hid (¬ (u1 = u2 ∧ l1 = l2)) := Lib.hid (fun e => by have := HNN.out.2 e; cases this)
        clear HNN CA HK CC
        go_enter Tryz.func11, Tryz.ntmps11
        go_wp2_with (fail)
        go_ret
        exact ⟨⟨false, rfl, fun h => (by cases h), fun h => absurd ⟨(HF.out.1 h).2.1, (HF.out.1 h).2.2.1⟩ HQ.out⟩, HB0.out⟩
      · have HQ : Hid (u1 = u2 ∧ l1 = l2) := Lib.hid (HNN.out.1 rfl)
        clear HNN
        by_cases ht : t1 = t2
        · subst ht
          cases r0
          · have HQ2 : Hid (¬ a.attrs = b.attrs) := Lib.hid (fun e => by have := HR.out.2 e; cases this)
            clear HR HK CC
            go_enter Tryz.func11, Tryz.ntmps11
            go_wp2_with (go_at_call 46; refine (CA.out _ b0).mono ?_; rintro e w2 ⟨rfl, hb2⟩)
            go_ret
            exact ⟨⟨false, rfl, fun h => (by cases h), fun h => absurd (HF.out.1 h).2.2.2.2.1 HQ2.out⟩, HB0.out.trans (hb2.mono HB0.out.size)⟩
          · have HQ2 : Hid (a.attrs = b.attrs) := Lib.hid (HR.out.1 rfl)
            clear HR
            by_cases hlen : ks.length = ls.length
            · have HLN := Lib.hid hlen
              rw [← hlen] at hll hlc CC b0 HB0 ⊢
              clear hlen
              go_enter Tryz.func11, Tryz.ntmps11
              go_wp2_with (go_at_call 46; with_reducible refine (CA.out _ b0).mono ?_; rintro e w2 ⟨rfl, hb2⟩; have y2 := below_cat5 b0 hb2; have q4 := (CC.out _ y2).1; have p4 := (CC.out _ y2).2)
              go_loopw [45] (fun v wr => ∃ j : Nat, v = .int .i64 (j : Int) ∧ j ≤ ks.length ∧ Hid' (Below W1.heap.size W1 wr ∧ (ks.take j).map AT.plain = (ls.take j).map AT.plain)) (fun v _ => ks.length - (intOf v).toNat)
              case atStart => exact ⟨0, rfl, Nat.zero_le _, ⟨y2, by rw [List.take_zero, List.take_zero]⟩⟩
              case round =>
                obtain ⟨j, rfl, hj, HI⟩ := hrel
                by_cases hlt : j < ks.length
                · have hi' : (j : Int) < (ks.length : Int) := by omega
                  have hlt2 : j < ls.length := by rw [← HLN.out]; exact hlt
                  obtain ⟨kb, ko, pa1, ca1, pk1, ck1, lb, lo, qa1, da1, qk1, dk1, rfl, rfl, ⟨c0, c1, c2, c3, c4, c5⟩, ⟨d0, d1, d2, d3, d4, d5⟩, hcall⟩ := HK.out j hlt hlt2
                  have bw : Below w.heap.size w wr := HBB.out.trans (HI.out.1.mono HBB.out.size)
                  have e0 := t_cell' bw c0
                  have e1 := t_cell' bw c1
                  have e2 := t_cell' bw c2
                  have e3 := t_cell' bw c3
                  have e4 := t_cell' bw c4
                  have e5 := t_cell' bw c5
                  have f0 := t_cell' bw d0
                  have f1 := t_cell' bw d1
                  have f2 := t_cell' bw d2
                  have f3 := t_cell' bw d3
                  have f4 := t_cell' bw d4
                  have f5 := t_cell' bw d5
                  have g4 := (CC.out _ HI.out.1).1
                  have h4 := (CC.out _ HI.out.1).2
                  obtain ⟨r1, hr1⟩ := says_of (ks[j].plain = ls[j].plain)
                  have CB := Lib.hid (fun (W : World) (y : Below W1.heap.size W1 W) => (hcall W y).mono (R' := fun e W' => e = .returned (.bool r1) ∧ Below W.heap.size W W') (fun e W' q => ⟨q.1.of hr1, q.2⟩))
                  have HBW := Lib.hid bw
                  have HJ : Hid ((ks.take (j + 1)).map AT.plain = (ks.take j).map AT.plain ++ [ks[j].plain] ∧ (ls.take (j + 1)).map AT.plain = (ls.take j).map AT.plain ++ [ls[j].plain]) := Lib.hid ⟨by rw [List.take_add_one, List.getElem?_eq_getElem hlt, List.map_append]; rfl, by rw [List.take_add_one, List.getElem?_eq_getElem hlt2, List.map_append]; rfl⟩
                  have HE : Hid (ks.map AT.plain = ls.map AT.plain → ks[j].plain = ls[j].plain) := Lib.hid (fun h => by
                    have h5 := congrArg (fun l => l[j]?) h
                    simpa [List.getElem?_eq_getElem hlt, List.getElem?_eq_getElem hlt2] using h5)
                  obtain ⟨kp, ekp⟩ : ∃ x, ks[j].plain = x := ⟨_, rfl⟩
                  obtain ⟨lp, elp⟩ : ∃ x, ls[j].plain = x := ⟨_, rfl⟩
                  rw [ekp, elp] at hr1 HJ HE
                  have HR1 := Lib.hid hr1
                  clear c0 c1 c2 c3 c4 c5 d0 d1 d2 d3 d4 d5 hcall bw ekp elp hr1
                  generalize ks[j].kind = x0 at *
                  generalize ks[j].uri = x1 at *
                  generalize ks[j].loc = x2 at *
                  generalize ks[j].attrs.length = x3 at *
                  generalize ks[j].kids.length = x4 at *
                  generalize ks[j].text = x5 at *
                  generalize ls[j].kind = z0 at *
                  generalize ls[j].uri = z1 at *
                  generalize ls[j].loc = z2 at *
                  generalize ls[j].attrs.length = z3 at *
                  generalize ls[j].kids.length = z4 at *
                  generalize ls[j].text = z5 at *
                  cases r1
                  · have HQ3 : Hid (¬ kp = lp) := Lib.hid (fun e => by have := HR1.out.2 e; cases this)
                    clear HR1
                    go_wp2_with (fail)
                    go_region_with (go_at_call 11; with_reducible refine (CB.out _ HI.out.1.drew).mono ?_; rintro e w3 ⟨rfl, hb3⟩)
                    all_goals
                      have bw3 := Lib.hid (HBW.out.drew.trans (hb3.mono HBW.out.size))
                      go_wp2_with (fail)
                      go_ret
                      exact ⟨⟨false, rfl, fun h => (by cases h), fun h => absurd (HE.out (HF.out.1 h).2.2.2.2.2) HQ3.out⟩, bw3.out⟩
                  · have HQ3 : Hid (kp = lp) := Lib.hid (HR1.out.1 rfl)
                    clear HR1
                    go_wp2_with (fail)
                    go_region_with (go_at_call 11; with_reducible refine (CB.out _ HI.out.1.drew).mono ?_; rintro e w3 ⟨rfl, hb3⟩)
                    all_goals
                      have bw3 := Lib.hid (HI.out.1.drew.trans (hb3.mono HI.out.1.size))
                      go_wp2_with (fail)
                      go_roundw
                      case rel => exact ⟨j + 1, by go_num, hlt, ⟨bw3.out, by rw [HJ.out.1, HJ.out.2, HI.out.2, HQ3.out]⟩⟩
                      case measure => simp only [intOf]; omega
                · have hi' : ¬ (j : Int) < (ks.length : Int) := by omega
                  have h6 := HI.out.2
                  rw [List.take_of_length_le (by omega), List.take_of_length_le (by have := HLN.out; omega)] at h6
                  have H6 := Lib.hid h6
                  have bw3 := Lib.hid (HBB.out.trans (HI.out.1.mono HBB.out.size))
                  clear h6
                  go_wp2_with (fail)
                  go_ret
                  exact ⟨⟨true, rfl, fun _ => HF.out.2 ⟨(by first | trivial | rfl), HQ.out.1, HQ.out.2, (by first | trivial | rfl), HQ2.out, H6.out⟩, fun _ => rfl⟩, bw3.out⟩
            · have HQ3 : Hid (¬ ks.map AT.plain = ls.map AT.plain) := Lib.hid (fun e => hlen (by simpa using congrArg List.length e))
              have hlf : ((ks.length : Int) != (ls.length : Int)) = true := by simp; omega
              clear HK
              generalize ks.length = x1 at *
              generalize ls.length = x2 at *
              have hxf : ((x1 : Int) == (x2 : Int)) = false := by rw [beq_eq_false_iff_ne]; omega
              clear hlen
              go_enter Tryz.func11, Tryz.ntmps11
              go_wp2_with (go_at_call 46; with_reducible refine (CA.out _ b0).mono ?_; rintro e w2 ⟨rfl, hb2⟩; have y2 := below_cat5 b0 hb2; have q4 := (CC.out _ y2).1; have p4 := (CC.out _ y2).2)
              go_ret
              exact ⟨⟨false, rfl, fun h => (by cases h), fun h => absurd (HF.out.1 h).2.2.2.2.2 HQ3.out⟩, HB0.out.trans (hb2.mono HB0.out.size)⟩
        · have htf : (t1.toList == t2.toList) = false := by
            rw [← Go.beq_toListBytes, Bool.eq_false_iff]
            exact fun h => ht ((beq_eq _ _).1 h)
          have HQ2 := Lib.hid ht
          clear ht HK CC CA
          go_enter Tryz.func11, Tryz.ntmps11
          go_wp2_with (fail)
          go_ret
          exact ⟨⟨false, rfl, fun h => (by cases h), fun h => absurd (HF.out.1 h).2.2.2.1 HQ2.out⟩, HB0.out⟩
    · have hkn : (k1 != k2) = true := by simpa using hk
      have HQ := Lib.hid hk
      clear hk
      clear HNN CA HK CC
      go_enter Tryz.func11, Tryz.ntmps11
      go_wp2_with (fail)
      go_ret
      exact ⟨⟨false, rfl, fun h => (by cases h), fun h => absurd (HF.out.1 h).1 HQ.out⟩, HB0.out⟩
end Go.Proofs.YtfmlmdfehaajbaaGreatDoor
