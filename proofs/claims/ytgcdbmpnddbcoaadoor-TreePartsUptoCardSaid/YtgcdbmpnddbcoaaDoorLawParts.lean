/- Proved here: the statement TreeParts, walked: it answers true of every tree, in every world. -/
import Derived.Test.YtgcdbmpnddbcoaaDoorAwake5A
import Derived.Test.YtgcdbmpnddbcoaaDoorPartsPlain
import Derived.Test.YtgcdbmpnddbcoaaDoorKidAt
namespace Go.Proofs.YtgcdbmpnddbcoaaDoor
open Go.RowKit Go.Shelf

/-- The document of one element that the law makes. -/
theorem docPart {W : World} {x : AT} {pa : Option Addr} {ca : Nat} {pk : Option Addr} {ck B : Nat} {T : TypeId} (hP : PartsAt W x pa ca pk ck) (hK : KidsAt W x) (hB : W.heap[B]? = some (.cells (nodeC x pa ca pk ck) T (0, 0))) :
    PartsAt W (docOf 0 0 (x.put B 0)) none 0 (some ⟨B, 0, none⟩) 1 ∧ KidsAt W (docOf 0 0 (x.put B 0)) := by
  have hT := TreeAt.boxed hP hK hB
  refine ⟨⟨fun h => absurd h (by simp [docOf, AT.attrs]), Nat.le_refl _, fun _ => rfl, fun _ => ⟨B, 0, rfl, fun i hi => ?_⟩, Nat.le_refl _, fun e => (by cases e), (show -9223372036854775808 ≤ (1 : Int) ∧ (1 : Int) ≤ 9223372036854775807 by decide), (show noB.size ≤ 140737488351232 by decide), (show noB.size ≤ 140737488351232 by decide), (show noB.size ≤ 140737488351232 by decide), Nat.zero_le _, (show 1 ≤ 140737488351232 by decide), fun a ha => (by cases ha)⟩, fun k hk => ?_⟩
  · have hi0 : i = 0 := by
      have : (docOf 0 0 (x.put B 0)).kids.length = 1 := rfl
      omega
    subst hi0
    exact ⟨put_b _ _ _, put_o _ _ _⟩
  · have : k = x.put B 0 := by simpa [docOf, AT.kids] using hk
    subst this
    exact hT
theorem put_fits {t : AT} (h : t.Fits 1048576) (b o : Nat) : ∀ x ∈ (t.put b o).all, x.text.size < 4294967281 := fun x hx => by
  have := (h.put b o x hx).2.2.1
  omega
theorem docOf_fits {t : AT} (h : t.Fits 1048576) (b o b' o' : Nat) : ∀ x ∈ (docOf b o (t.put b' o')).all, x.text.size < 4294967281 := fun x hx => by
  rw [docOf_all] at hx
  rcases List.mem_cons.1 hx with rfl | hx
  · show (0 : Nat) < _
    decide
  · exact put_fits h b' o' x hx
set_option maxRecDepth 100000 in
set_option maxHeartbeats 8000000 in
theorem parts_walk (w : World) (hL : Leans5 w) (t : AT) (pa : Option Addr) (ca : Nat) (pk : Option Addr) (ck : Nat) (h : PartsAt w t pa ca pk ck) (hk : KidsAt w t) (hc : t.count ≤ 1048576) (hF : t.Fits 1048576) :
    Calls Tryd.prog 3 #[nodeV t pa ca pk ck] w fun e W' => e = .returned (.bool true) ∧ Below w.heap.size w W' := by
  obtain ⟨W1, hW1⟩ : ∃ W1, w.alloc (.cells (nodeC t pa ca pk ck) 27) = W1 := ⟨_, rfl⟩
  have hB : Below w.heap.size w W1 := by rw [← hW1]; exact (Below.refl _ _).alloc (Nat.le_refl _) _
  have hbx : W1.heap[w.heap.size]? = some (.cells (nodeC t pa ca pk ck) 27 (0, 0)) := by rw [← hW1]; exact heap_alloc_new _ _
  have CC := Lib.hid (And.intro (cell_of_row W1 w.heap.size 0 _ _ _ hbx) (And.intro (cell_of_row W1 w.heap.size 1 _ _ _ hbx) (And.intro (cell_of_row W1 w.heap.size 2 _ _ _ hbx) (And.intro (cell_of_row W1 w.heap.size 3 _ _ _ hbx) (And.intro (cell_of_row W1 w.heap.size 4 _ _ _ hbx) (cell_of_row W1 w.heap.size 5 _ _ _ hbx))))))
  have hsub : ∀ W, Below W1.heap.size W1 W → Stay w W := fun W y => Stay.below (hB.trans (y.mono hB.size))
  have CA := Lib.hid (awake5_any W1 (hL.below hB))
  obtain ⟨ks, hks⟩ : ∃ ks, t.kids = ks := ⟨_, rfl⟩
  obtain ⟨N, hNN⟩ : ∃ N, counted ks + 1 = N := ⟨_, rfl⟩
  obtain ⟨D, hDD⟩ : ∃ D, deepest ks = D := ⟨_, rfl⟩
  have hNt : t.count = N := by rw [count_kids', hks, hNN]
  have hDt : t.deep = D + 1 := by rw [deep_kids, hks, hDD]
  have hdb : D + 1 ≤ 1048576 := by
    have h1 := deep_le_count t
    omega
  have hNb : N ≤ 1048576 := by omega
  have CS := Lib.hid (fun (W : World) (y : Below W1.heap.size W1 W) => (size_any W t pa ca pk ck (h.stay (hsub W y)) (hk.stay (hsub W y)) (by omega)).mono (R' := fun e W' => e = .returned (.int .i64 (N : Int)) ∧ Below W.heap.size W W') (fun e W' q => ⟨by rw [q.1, hNt], q.2⟩))
  have CD := Lib.hid (fun (W : World) (y : Below W1.heap.size W1 W) => (depth_any W t pa ca pk ck (h.stay (hsub W y)) (hk.stay (hsub W y)) (by omega)).mono (R' := fun e W' => e = .returned (.int .i64 ((D : Int) + 1)) ∧ Below W.heap.size W W') (fun e W' q => ⟨by rw [q.1, put_deep, hDt]; rfl, q.2⟩))
  obtain ⟨z, hz⟩ : ∃ z : Int, t.checkA = z := ⟨_, rfl⟩
  have CK := Lib.hid (fun (W : World) (y : Below W1.heap.size W1 W) => (checks_any W t pa ca pk ck (h.stay (hsub W y)) (hk.stay (hsub W y)) (by omega) ((hL.below hB).below y).tabs ((hL.below hB).below y).fold ((hL.below hB).below y).max (put_fits hF _ _)).mono (R' := fun e W' => e = .returned (.int .i64 z) ∧ Below W.heap.size W W') (fun e W' q => ⟨by rw [q.1, put_checkA, hz], q.2⟩))
  have HZ := Lib.hid (fun (e : z = 0) => Right.of (hz.trans e))
  have HK := Lib.hid (fun (i : Nat) (hi : i < ks.length) => show (∃ kb ko pa' ca' pk' ck', pk = some ⟨kb, ko, none⟩ ∧ PartsAt w ks[i] pa' ca' pk' ck' ∧ KidsAt w ks[i] ∧ w.cell? ⟨kb, ko + i * 6, none⟩ = some (.int .i64 ks[i].kind) ∧ w.cell? ⟨kb, ko + i * 6 + 1, none⟩ = some (.string ks[i].uri) ∧
      w.cell? ⟨kb, ko + i * 6 + 2, none⟩ = some (.string ks[i].loc) ∧ w.cell? ⟨kb, ko + i * 6 + 3, none⟩ = some (.slice pa' ks[i].attrs.length ca') ∧ w.cell? ⟨kb, ko + i * 6 + 4, none⟩ = some (.slice pk' ks[i].kids.length ck') ∧
      w.cell? ⟨kb, ko + i * 6 + 5, none⟩ = some (.string ks[i].text)) ∧ ks[i].count ≤ counted ks ∧ ks[i].Fits 1048576 from by
    subst hks
    exact ⟨kid_at h hk i hi, counted_le (List.getElem_mem hi), hF.kid (List.getElem_mem hi)⟩)
  have HR := Lib.hid (fun (e : z = 0) (i j : Nat) (hi : i < ks.length) (hj : j < ks[i].kids.length) (h2 : (ks[i].kids[j]).kind = 2) (b o b' o' : Nat) => show (docOf b o ((ks[i].kids[j]).put b' o')).checkA = 0 from by
    subst hks
    exact (part_right (HZ.out e) (List.getElem_mem hi) (List.getElem_mem hj) h2 b o b' o').check)
  have HNN := Lib.hid (And.intro hNN hDD)
  have HSB := Lib.hid hsub
  have HL := Lib.hid (fun (W : World) (y : Below W1.heap.size W1 W) => (hL.below hB).below y)
  have HB := Lib.hid hB
  have hkl : ks.length ≤ 140737488351232 := hks ▸ h.ksz
  have hkc : ks.length ≤ ck := hks ▸ h.kcap
  unfold nodeC at hW1 CC
  unfold nodeV at CS CD CK ⊢
  simp only [hks] at CS CD CK CC hW1 ⊢
  clear h hk hc hF hbx hsub hz hks hNN hDD hNt hDt hB HZ hL
  generalize t.kind = kd at *
  generalize t.uri = u at *
  generalize t.loc = l at *
  generalize t.attrs.length = la at *
  generalize t.text = s at *
  go_enter Tryd.func3, Tryd.ntmps3
  go_wp2_with (go_at_call 7; refine CA.out.mono ?_; rintro e wA ⟨rfl, hbA⟩; have q0 := t_cell' hbA CC.out.1; have q1 := t_cell' hbA CC.out.2.1; have q2 := t_cell' hbA CC.out.2.2.1; have q3 := t_cell' hbA CC.out.2.2.2.1; have q4 := t_cell' hbA CC.out.2.2.2.2.1; have q5 := t_cell' hbA CC.out.2.2.2.2.2)
  go_loopw [3, 4, 16] (fun v3 v4 v wr => ∃ i n d : Nat, v3 = .int .i64 (n : Int) ∧ v4 = .int .i64 (d : Int) ∧ v = .int .i64 (i : Int) ∧ i ≤ ks.length ∧ n ≤ 1048576 ∧ d ≤ 1048576 ∧ Hid' (Below W1.heap.size W1 wr ∧ counted (ks.take i) + 1 = n ∧ deepest (ks.take i) = d)) (fun _ _ v _ => ks.length - (intOf v).toNat)
  case atStart => exact ⟨0, 1, 0, rfl, rfl, rfl, Nat.zero_le _, by decide, by decide, ⟨hbA, rfl, rfl⟩⟩
  case round =>
    obtain ⟨i, n, d, rfl, rfl, rfl, hi, hn, hd, HI⟩ := hrel
    by_cases hlt : i < ks.length
    · have hi' : (i : Int) < (ks.length : Int) := by omega
      obtain ⟨⟨kb, ko, pa', ca', pk', ck', rfl, hP, hKs, c0, c1, c2, c3, c4, c5⟩, hcnt, hfit⟩ := HK.out i hlt
      have hst := HSB.out wr HI.out.1
      have e0 := hst _ _ c0
      have e1 := hst _ _ c1
      have e2 := hst _ _ c2
      have e3 := hst _ _ c3
      have e4 := hst _ _ c4
      have e5 := hst _ _ c5
      have S1 := Lib.hid (fun (W : World) (y : Below wr.heap.size wr W) => size_any W ks[i] pa' ca' pk' ck' (hP.stay (hst.trans (Stay.below y))) (hKs.stay (hst.trans (Stay.below y))) (by have := HNN.out.1; omega))
      have D1 := Lib.hid (fun (W : World) (y : Below wr.heap.size wr W) => (depth_any W ks[i] pa' ca' pk' ck' (hP.stay (hst.trans (Stay.below y))) (hKs.stay (hst.trans (Stay.below y))) (by have := HNN.out.1; omega)).mono (R' := fun e W' => e = .returned (.int .i64 (ks[i].deep : Int)) ∧ Below W.heap.size W W') (fun e W' q => ⟨by rw [q.1, put_deep], q.2⟩))
      have hs0 : ks.take (i + 1) = ks.take i ++ [ks[i]] := by rw [List.take_add_one, List.getElem?_eq_getElem hlt]; rfl
      have hs1 : counted (ks.take (i + 1)) + 1 = n + ks[i].count := by rw [hs0, counted_snoc]; have := HI.out.2.1; omega
      have hs2 : deepest (ks.take (i + 1)) = max d ks[i].deep := by rw [hs0, deepest_snoc, HI.out.2.2]
      have hle := counted_take ks (i + 1)
      have hdl := deep_le_count ks[i]
      have hNN1 := HNN.out.1
      obtain ⟨c, hc⟩ : ∃ c, ks[i].count = c := ⟨_, rfl⟩
      obtain ⟨q, hq⟩ : ∃ q, ks[i].deep = q := ⟨_, rfl⟩
      rw [hc] at S1 hs1 hdl hcnt
      rw [hq] at D1 hs2 hdl
      have hnc : n + c ≤ 1048576 := by omega
      have hqb : q ≤ 1048576 := by omega
      have HS := Lib.hid (And.intro hs1 hs2)
      unfold nodeV at S1 D1
      clear hP hKs c0 c1 c2 c3 c4 c5 hfit hst hs0 hs1 hs2 hle hdl hc hq hcnt hNN1
      generalize ks[i].kind = y0 at *
      generalize ks[i].uri = y1 at *
      generalize ks[i].loc = y2 at *
      generalize ks[i].attrs.length = y3 at *
      generalize ks[i].kids.length = y4 at *
      generalize ks[i].text = y5 at *
      have bA : Below wr.heap.size wr (wr.alloc (.cells #[.int .i64 y0, .string y1, .string y2, .slice pa' y3 ca', .slice pk' y4 ck', .string y5] 27)) := (Below.refl _ _).alloc (Nat.le_refl _) _
      by_cases hm : (d : Int) < (q : Int)
      · go_wp2_with (first | (go_at_call 8; with_reducible refine (S1.out _ bA).mono ?_; rintro e w2 ⟨rfl, hb2⟩; have b2 := below_cat5 bA hb2; have g0 : w2.cell? ⟨wr.heap.size, 0, none⟩ = some (.int .i64 y0) := t_cell' hb2 (by go_simp); have g1 : w2.cell? ⟨wr.heap.size, 1, none⟩ = some (.string y1) := t_cell' hb2 (by go_simp); have g2 : w2.cell? ⟨wr.heap.size, 2, none⟩ = some (.string y2) := t_cell' hb2 (by go_simp); have g3 : w2.cell? ⟨wr.heap.size, 3, none⟩ = some (.slice pa' y3 ca') := t_cell' hb2 (by go_simp); have g4 : w2.cell? ⟨wr.heap.size, 4, none⟩ = some (.slice pk' y4 ck') := t_cell' hb2 (by go_simp); have g5 : w2.cell? ⟨wr.heap.size, 5, none⟩ = some (.string y5) := t_cell' hb2 (by go_simp)) | (go_at_call 9; with_reducible refine (D1.out _ b2).mono ?_; rintro e w3 ⟨rfl, hb3⟩; have b3 := below_cat5 b2 hb3))
        go_roundw
        case rel => exact ⟨i + 1, n + c, q, by go_num, by go_num, by go_num, hlt, by omega, by omega, ⟨below_cat5 HI.out.1 b3, HS.out.1, by rw [HS.out.2]; omega⟩⟩
        case measure => simp only [intOf]; omega
      · go_wp2_with (first | (go_at_call 8; with_reducible refine (S1.out _ bA).mono ?_; rintro e w2 ⟨rfl, hb2⟩; have b2 := below_cat5 bA hb2; have g0 : w2.cell? ⟨wr.heap.size, 0, none⟩ = some (.int .i64 y0) := t_cell' hb2 (by go_simp); have g1 : w2.cell? ⟨wr.heap.size, 1, none⟩ = some (.string y1) := t_cell' hb2 (by go_simp); have g2 : w2.cell? ⟨wr.heap.size, 2, none⟩ = some (.string y2) := t_cell' hb2 (by go_simp); have g3 : w2.cell? ⟨wr.heap.size, 3, none⟩ = some (.slice pa' y3 ca') := t_cell' hb2 (by go_simp); have g4 : w2.cell? ⟨wr.heap.size, 4, none⟩ = some (.slice pk' y4 ck') := t_cell' hb2 (by go_simp); have g5 : w2.cell? ⟨wr.heap.size, 5, none⟩ = some (.string y5) := t_cell' hb2 (by go_simp)) | (go_at_call 9; with_reducible refine (D1.out _ b2).mono ?_; rintro e w3 ⟨rfl, hb3⟩; have b3 := below_cat5 b2 hb3))
        go_roundw
        case rel => exact ⟨i + 1, n + c, d, by go_num, by go_num, by go_num, hlt, by omega, by omega, ⟨below_cat5 HI.out.1 b3, HS.out.1, by rw [HS.out.2]; omega⟩⟩
        case measure => simp only [intOf]; omega
    · have hi' : ¬ (i : Int) < (ks.length : Int) := by omega
      have hnN : n = N := by
        have h1 := HI.out.2.1
        rw [List.take_of_length_le (by omega)] at h1
        have := HNN.out.1
        omega
      have hdD : d = D := by
        have h1 := HI.out.2.2
        rw [List.take_of_length_le (by omega)] at h1
        have := HNN.out.2
        omega
      subst hnN hdD
      have bL := HI.out.1
      have q0' := t_cell' bL CC.out.1
      have q1' := t_cell' bL CC.out.2.1
      have q2' := t_cell' bL CC.out.2.2.1
      have q3' := t_cell' bL CC.out.2.2.2.1
      have q4' := t_cell' bL CC.out.2.2.2.2.1
      have q5' := t_cell' bL CC.out.2.2.2.2.2
      by_cases hz0 : z = 0
      · have hR := Lib.hid (HR.out hz0)
        subst hz0
        go_wp2_with (first | (go_at_call 8; with_reducible refine (CS.out _ bL).mono ?_; rintro e w2 ⟨rfl, hb2⟩; have b2 := below_cat5 bL hb2; have r0 := t_cell' b2 CC.out.1; have r1 := t_cell' b2 CC.out.2.1; have r2 := t_cell' b2 CC.out.2.2.1; have r3 := t_cell' b2 CC.out.2.2.2.1; have r4 := t_cell' b2 CC.out.2.2.2.2.1; have r5 := t_cell' b2 CC.out.2.2.2.2.2) | (go_at_call 9; with_reducible refine (CD.out _ b2).mono ?_; rintro e w3 ⟨rfl, hb3⟩; have b3 := below_cat5 b2 hb3; have s0 := t_cell' b3 CC.out.1; have s1 := t_cell' b3 CC.out.2.1; have s2 := t_cell' b3 CC.out.2.2.1; have s3 := t_cell' b3 CC.out.2.2.2.1; have s4 := t_cell' b3 CC.out.2.2.2.2.1; have s5 := t_cell' b3 CC.out.2.2.2.2.2) | (go_at_call 10; with_reducible refine (CK.out _ b3).mono ?_; rintro e w4 ⟨rfl, hb4⟩; have b4 := below_cat5 b3 hb4; have x0 := t_cell' b4 CC.out.1; have x1 := t_cell' b4 CC.out.2.1; have x2 := t_cell' b4 CC.out.2.2.1; have x3 := t_cell' b4 CC.out.2.2.2.1; have x4 := t_cell' b4 CC.out.2.2.2.2.1; have x5 := t_cell' b4 CC.out.2.2.2.2.2))
        go_loopw [46] (fun v wr => ∃ i : Nat, v = .int .i64 (i : Int) ∧ i ≤ ks.length ∧ Hid' (Below W1.heap.size W1 wr)) (fun v _ => ks.length - (intOf v).toNat)
        case atStart => exact ⟨0, rfl, Nat.zero_le _, b4⟩
        case round =>
          obtain ⟨i, rfl, hi, HI⟩ := hrel
          obtain ⟨V, rfl⟩ : ∃ V, V = wr := ⟨_, rfl⟩
          by_cases hlt : i < ks.length
          · have hi' : (i : Int) < (ks.length : Int) := by omega
            obtain ⟨⟨kb, ko, pa', ca', pk', ck', rfl, hP, hKs, c0, c1, c2, c3, c4, c5⟩, hcnt, hfit⟩ := HK.out i hlt
            have hst := HSB.out V HI.out
            have e0 := hst _ _ c0
            have e1 := hst _ _ c1
            have e2 := hst _ _ c2
            have e3 := hst _ _ c3
            have e4 := hst _ _ c4
            have e5 := hst _ _ c5
            have HRi := Lib.hid (fun j => hR.out i j hlt)
            have hkl' := hP.ksz
            have hkc' := hP.kcap
            obtain ⟨l, hl⟩ : ∃ l, ks[i].kids = l := ⟨_, rfl⟩
            have HX := Lib.hid (fun (j : Nat) (hj : j < l.length) => show (∃ kb ko pa2 ca2 pk2 ck2, pk' = some ⟨kb, ko, none⟩ ∧ PartsAt w l[j] pa2 ca2 pk2 ck2 ∧ KidsAt w l[j] ∧ w.cell? ⟨kb, ko + j * 6, none⟩ = some (.int .i64 l[j].kind) ∧ w.cell? ⟨kb, ko + j * 6 + 1, none⟩ = some (.string l[j].uri) ∧
                w.cell? ⟨kb, ko + j * 6 + 2, none⟩ = some (.string l[j].loc) ∧ w.cell? ⟨kb, ko + j * 6 + 3, none⟩ = some (.slice pa2 l[j].attrs.length ca2) ∧ w.cell? ⟨kb, ko + j * 6 + 4, none⟩ = some (.slice pk2 l[j].kids.length ck2) ∧
                w.cell? ⟨kb, ko + j * 6 + 5, none⟩ = some (.string l[j].text)) ∧ l[j].count ≤ 1048576 ∧ l[j].Fits 1048576 ∧ (l[j].kind = 2 → ∀ b o b' o', (docOf b o (l[j].put b' o')).checkA = 0) from by
              subst hl
              have g1 := counted_le (List.getElem_mem hj)
              have g2 := count_kids' ks[i]
              have g3 := HNN.out.1
              exact ⟨kid_at hP hKs j hj, by omega, hfit.kid (List.getElem_mem hj), fun h2 b o b' o' => HRi.out j hj h2 b o b' o'⟩)
            rw [hl] at e4 hkl' hkc'
            clear hP hKs c0 c1 c2 c3 c4 c5 hfit hst hcnt hl HRi
            generalize ks[i].kind = y0 at *
            generalize ks[i].uri = y1 at *
            generalize ks[i].loc = y2 at *
            generalize ks[i].attrs.length = y3 at *
            generalize ks[i].text = y5 at *
            have bA : Below W1.heap.size W1 (V.alloc (.cells #[.int .i64 y0, .string y1, .string y2, .slice pa' y3 ca', .slice pk' l.length ck', .string y5] 27)) := HI.out.alloc HI.out.size _
            go_wp2_with (fail)
            go_loopw [53] (fun v wr => ∃ j : Nat, v = .int .i64 (j : Int) ∧ j ≤ l.length ∧ Hid' (Below W1.heap.size W1 wr)) (fun v _ => l.length - (intOf v).toNat)
            case atStart => exact ⟨0, rfl, Nat.zero_le _, bA⟩
            case round =>
              obtain ⟨j, rfl, hj, HJ⟩ := hrel
              by_cases hjt : j < l.length
              · have hj' : (j : Int) < (l.length : Int) := by omega
                obtain ⟨⟨kb2, ko2, pa2, ca2, pk2, ck2, rfl, hP, hKs, c0, c1, c2, c3, c4, c5⟩, hcnt, hfit, hdoc⟩ := HX.out j hjt
                have hst := HSB.out wr HJ.out
                have f0 := hst _ _ c0
                have f1 := hst _ _ c1
                have f2 := hst _ _ c2
                have f3 := hst _ _ c3
                have f4 := hst _ _ c4
                have f5 := hst _ _ c5
                by_cases h2 : l[j].kind = 2
                · have CP := Lib.hid (fun (W : World) (y : Below wr.heap.size wr W) (hrow : W.heap[wr.heap.size + 1]? = some (.cells (nodeC l[j] pa2 ca2 pk2 ck2) 27 (0, 0))) =>
                    (checks_any W (docOf 0 0 (l[j].put (wr.heap.size + 1) 0)) none 0 (some ⟨wr.heap.size + 1, 0, none⟩) 1 (docPart (hP.stay (hst.trans (Stay.below y))) (hKs.stay (hst.trans (Stay.below y))) hrow).1 (docPart (hP.stay (hst.trans (Stay.below y))) (hKs.stay (hst.trans (Stay.below y))) hrow).2
                      (by rw [count_kids']; show counted [_] + 1 ≤ _; have : counted [l[j].put (wr.heap.size + 1) 0] = l[j].count := (by rw [← put_count l[j] (wr.heap.size + 1) 0]; unfold counted AT.count; simp); omega)
                      (HL.out W (below_cat5 HJ.out y)).tabs (HL.out W (below_cat5 HJ.out y)).fold (HL.out W (below_cat5 HJ.out y)).max (docOf_fits hfit _ _ _ _)).mono (R' := fun e W' => e = .returned (.int .i64 0) ∧ Below W.heap.size W W') (fun e W' q => ⟨by rw [q.1]; exact ret_i6 (hdoc h2 _ _ _ _), q.2⟩))
                  unfold nodeV nodeC at CP
                  rw [h2] at CP f0
                  clear hP hKs c0 c1 c2 c3 c4 c5 hfit hst hcnt hdoc h2
                  generalize l[j].uri = x1 at *
                  generalize l[j].loc = x2 at *
                  generalize l[j].attrs.length = x3 at *
                  generalize l[j].kids.length = x4 at *
                  generalize l[j].text = x5 at *
                  have bX : Below wr.heap.size wr ((wr.alloc (.cells #[.int .i64 2, .string x1, .string x2, .slice pa2 x3 ca2, .slice pk2 x4 ck2, .string x5] 27)).alloc (.cells #[.int .i64 2, .string x1, .string x2, .slice pa2 x3 ca2, .slice pk2 x4 ck2, .string x5] 27)) := ((Below.refl _ _).alloc (Nat.le_refl _) _).alloc (by simp) _
                  have rX : ((wr.alloc (.cells #[.int .i64 2, .string x1, .string x2, .slice pa2 x3 ca2, .slice pk2 x4 ck2, .string x5] 27)).alloc (.cells #[.int .i64 2, .string x1, .string x2, .slice pa2 x3 ca2, .slice pk2 x4 ck2, .string x5] 27)).heap[wr.heap.size + 1]? = some (.cells #[.int .i64 2, .string x1, .string x2, .slice pa2 x3 ca2, .slice pk2 x4 ck2, .string x5] 27 (0, 0)) := by
                    have := heap_alloc_new (wr.alloc (.cells #[.int .i64 2, .string x1, .string x2, .slice pa2 x3 ca2, .slice pk2 x4 ck2, .string x5] 27)) (.cells #[.int .i64 2, .string x1, .string x2, .slice pa2 x3 ca2, .slice pk2 x4 ck2, .string x5] 27)
                    rwa [World.size_alloc] at this
                  have CQ := Lib.hid (CP.out _ bX rX)
                  have HBX := Lib.hid bX
                  clear CP bX rX
                  go_wp2_with (go_at_call 10; refine CQ.out.mono ?_; rintro e w7 ⟨rfl, hb7⟩)
                  go_roundw
                  case rel => exact ⟨j + 1, by go_num, hjt, below_cat5 HJ.out (below_cat5 HBX.out hb7)⟩
                  case measure => simp only [intOf]; omega
                · clear hP hKs c0 c1 c2 c3 c4 c5 hfit hst hcnt hdoc
                  generalize l[j].kind = x0 at *
                  generalize l[j].uri = x1 at *
                  generalize l[j].loc = x2 at *
                  generalize l[j].attrs.length = x3 at *
                  generalize l[j].kids.length = x4 at *
                  generalize l[j].text = x5 at *
                  go_wp2_with (fail)
                  go_roundw
                  case rel => exact ⟨j + 1, by go_num, hjt, HJ.out.alloc HJ.out.size _⟩
                  case measure => simp only [intOf]; omega
              · have hj' : ¬ (j : Int) < (l.length : Int) := by omega
                go_wp2_with (fail)
                go_roundw
                case rel => exact ⟨i + 1, by go_num, hlt, HJ.out⟩
                case measure => simp only [intOf]; omega
          · have hi' : ¬ (i : Int) < (ks.length : Int) := by omega
            go_wp2_with (fail)
            go_ret
            exact ⟨rfl, HB.out.trans (HI.out.mono HB.out.size)⟩
      · go_wp2_with (first | (go_at_call 8; with_reducible refine (CS.out _ bL).mono ?_; rintro e w2 ⟨rfl, hb2⟩; have b2 := below_cat5 bL hb2; have r0 := t_cell' b2 CC.out.1; have r1 := t_cell' b2 CC.out.2.1; have r2 := t_cell' b2 CC.out.2.2.1; have r3 := t_cell' b2 CC.out.2.2.2.1; have r4 := t_cell' b2 CC.out.2.2.2.2.1; have r5 := t_cell' b2 CC.out.2.2.2.2.2) | (go_at_call 9; with_reducible refine (CD.out _ b2).mono ?_; rintro e w3 ⟨rfl, hb3⟩; have b3 := below_cat5 b2 hb3; have s0 := t_cell' b3 CC.out.1; have s1 := t_cell' b3 CC.out.2.1; have s2 := t_cell' b3 CC.out.2.2.1; have s3 := t_cell' b3 CC.out.2.2.2.1; have s4 := t_cell' b3 CC.out.2.2.2.2.1; have s5 := t_cell' b3 CC.out.2.2.2.2.2) | (go_at_call 10; with_reducible refine (CK.out _ b3).mono ?_; rintro e w4 ⟨rfl, hb4⟩; have b4 := below_cat5 b3 hb4; have x0 := t_cell' b4 CC.out.1; have x1 := t_cell' b4 CC.out.2.1; have x2 := t_cell' b4 CC.out.2.2.1; have x3 := t_cell' b4 CC.out.2.2.2.1; have x4 := t_cell' b4 CC.out.2.2.2.2.1; have x5 := t_cell' b4 CC.out.2.2.2.2.2))
        go_ret
        exact ⟨rfl, HB.out.trans (b4.mono HB.out.size)⟩
end Go.Proofs.YtgcdbmpnddbcoaaDoor
