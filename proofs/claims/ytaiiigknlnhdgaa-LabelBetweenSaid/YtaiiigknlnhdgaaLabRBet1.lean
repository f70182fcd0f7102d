/- Proved here: the document's Between on what it refuses, and with at most one neighbour. -/
import Derived.Test.YtaiiigknlnhdgaaLabROn
namespace Go.Proofs.Ytaiiigknlnhdgaa
open Go.RowKit

theorem may_eq (up l r : List Int) : mayP up l r = (decide (checkP up = 0) && (decide (l.length = 0) || kidP up l) && (decide (r.length = 0) || kidP up r) && (decide (l.length = 0) || decide (r.length = 0) || decide (cmpN l r < 0))) := rfl
theorem bet_bad {up l r : List Int} (h : mayP up l r = false) : betP up l r = ([], 1) := by unfold betP; rw [h]; rfl
theorem bet_good {up l r : List Int} (h : mayP up l r = true) : betP up l r = if checkP (newP up l r) = 0 then (newP up l r, 0) else ([], 5) := by unfold betP; rw [if_pos h]
set_option maxRecDepth 100000 in
set_option maxHeartbeats 8000000 in
theorem rbet_bad (p1 p2 p3 : Option Addr) (up l r : List Int) (c1 c2 c3 : Nat) (w : World) (hu : up.length * 8 ≤ 140737488355328) (hl : l.length * 8 ≤ 140737488355328) (hr : r.length * 8 ≤ 140737488355328)
    (huc : up.length ≤ c1) (hlc : l.length ≤ c2) (hrc : r.length ≤ c3) (h1 : HoldsI w p1 up) (h2 : HoldsI w p2 l) (h3 : HoldsI w p3 r) (hn1 : p1 = none → c1 = 0) (hn2 : p2 = none → c2 = 0) (hn3 : p3 = none → c3 = 0) (hm : mayP up l r = false) :
    Calls Try.prog 29 #[.slice p1 up.length c1, .slice p2 l.length c2, .slice p3 r.length c3] w (BetPost w ([], 1)) := by
  have RU := Lib.hid (right_any p1 up c1 w (by omega) huc h1)
  have KL := Lib.hid (fun W (hb : Below w.heap.size w W) (h0 : 0 < l.length) => kid_any p1 p2 up l c1 c2 W hu hl huc hlc (h1.below hb) (h2.below hb) hn2 h0)
  have KR := Lib.hid (fun W (hb : Below w.heap.size w W) (h0 : 0 < r.length) => kid_any p1 p3 up r c1 c3 W hu hr huc hrc (h1.below hb) (h3.below hb) hn3 h0)
  have CP := Lib.hid (fun W (hb : Below w.heap.size w W) => rcompare_any p2 p3 l r c2 c3 W (by omega) (by omega) hlc hrc (h2.below hb) (h3.below hb))
  have B0 := Lib.hid (Below.refl w.heap.size w)
  rw [may_eq] at hm
  by_cases hcu : checkP up = 0
  · rw [decide_eq_true hcu] at RU hm
    by_cases l1 : l.length = 0
    · rw [decide_eq_true l1] at hm
      by_cases r1 : r.length = 0
      · rw [decide_eq_true r1] at hm
        simp at hm
      · have r0 : 0 < r.length := by omega
        have kr : kidP up r = false := by simpa [r1] using hm
        rw [kr] at KR
        rw [l1]
        clear hu hl hr huc hlc hrc h1 h2 h3 hn1 hn2 hn3
        clear hm kr hcu l1 r1 KL CP
        go_enter Try.func29, Try.ntmps29
        go_wp2_with (fail)
        refine (RU.out).mono ?_
        rintro e w1 ⟨rfl, hb1⟩
        have B1 := Lib.hid (t_cat B0.out hb1)
        clear hb1
        go_wp2_with (fail)
        refine (KR.out _ B1.out r0).mono ?_
        rintro e w2 ⟨rfl, hb2⟩
        have B2 := Lib.hid (t_cat B1.out hb2)
        clear hb2
        go_wp2_with (fail)
        go_ret2
        exact bet_none B2.out 1
    · have l0 : 0 < l.length := by omega
      cases kl : kidP up l
      · rw [kl] at KL
        clear hu hl hr huc hlc hrc h1 h2 h3 hn1 hn2 hn3
        clear hm kl hcu l1 KR CP
        go_enter Try.func29, Try.ntmps29
        go_wp2_with (fail)
        refine (RU.out).mono ?_
        rintro e w1 ⟨rfl, hb1⟩
        have B1 := Lib.hid (t_cat B0.out hb1)
        clear hb1
        go_wp2_with (fail)
        refine (KL.out _ B1.out l0).mono ?_
        rintro e w2 ⟨rfl, hb2⟩
        have B2 := Lib.hid (t_cat B1.out hb2)
        clear hb2
        go_wp2_with (fail)
        go_ret2
        exact bet_none B2.out 1
      · rw [kl] at KL hm
        by_cases r1 : r.length = 0
        · simp [r1] at hm
        · have r0 : 0 < r.length := by omega
          cases kr : kidP up r
          · rw [kr] at KR
            clear hu hl hr huc hlc hrc h1 h2 h3 hn1 hn2 hn3
            clear hm kl kr hcu l1 r1 CP
            go_enter Try.func29, Try.ntmps29
            go_wp2_with (fail)
            refine (RU.out).mono ?_
            rintro e w1 ⟨rfl, hb1⟩
            have B1 := Lib.hid (t_cat B0.out hb1)
            clear hb1
            go_wp2_with (fail)
            refine (KL.out _ B1.out l0).mono ?_
            rintro e w2 ⟨rfl, hb2⟩
            have B2 := Lib.hid (t_cat B1.out hb2)
            clear hb2
            go_wp2_with (fail)
            refine (KR.out _ B2.out r0).mono ?_
            rintro e w3 ⟨rfl, hb3⟩
            have B3 := Lib.hid (t_cat B2.out hb3)
            clear hb3
            go_wp2_with (fail)
            go_ret2
            exact bet_none B3.out 1
          · rw [kr] at KR hm
            have hc : ¬ cmpN l r < 0 := by simpa [l1, r1] using hm
            generalize cmpN l r = z at *
            have hc2 : 0 ≤ z := by omega
            clear hu hl hr huc hlc hrc h1 h2 h3 hn1 hn2 hn3
            clear hm kl kr hcu l1 r1 hc
            go_enter Try.func29, Try.ntmps29
            go_wp2_with (fail)
            refine (RU.out).mono ?_
            rintro e w1 ⟨rfl, hb1⟩
            have B1 := Lib.hid (t_cat B0.out hb1)
            clear hb1
            go_wp2_with (fail)
            refine (KL.out _ B1.out l0).mono ?_
            rintro e w2 ⟨rfl, hb2⟩
            have B2 := Lib.hid (t_cat B1.out hb2)
            clear hb2
            go_wp2_with (fail)
            refine (KR.out _ B2.out r0).mono ?_
            rintro e w3 ⟨rfl, hb3⟩
            have B3 := Lib.hid (t_cat B2.out hb3)
            clear hb3
            go_wp2_with (fail)
            refine (CP.out _ B3.out).mono ?_
            rintro e w4 ⟨rfl, hb4⟩
            have B4 := Lib.hid (t_cat B3.out hb4)
            clear hb4
            go_wp2_with (fail)
            go_ret2
            exact bet_none B4.out 1
  · rw [decide_eq_false hcu] at RU
    clear hu hl hr huc hlc hrc h1 h2 h3 hn1 hn2 hn3
    clear hm hcu KL KR CP
    go_enter Try.func29, Try.ntmps29
    go_wp2_with (fail)
    refine (RU.out).mono ?_
    rintro e w1 ⟨rfl, hb1⟩
    have B1 := Lib.hid (t_cat B0.out hb1)
    clear hb1
    go_wp2_with (fail)
    go_ret2
    exact bet_none B1.out 1
set_option maxRecDepth 100000 in
set_option maxHeartbeats 8000000 in
theorem rbet_none (p1 p2 p3 : Option Addr) (up l r : List Int) (c1 c2 c3 : Nat) (w : World) (hu : up.length * 8 ≤ 140737488355328) (hl : l.length * 8 ≤ 140737488355328) (hr : r.length * 8 ≤ 140737488355328)
    (huc : up.length ≤ c1) (hlc : l.length ≤ c2) (hrc : r.length ≤ c3) (h1 : HoldsI w p1 up) (h2 : HoldsI w p2 l) (h3 : HoldsI w p3 r) (hn1 : p1 = none → c1 = 0) (hn2 : p2 = none → c2 = 0) (hn3 : p3 = none → c3 = 0) (hm : mayP up l r = true) (l1 : l.length = 0) (r1 : r.length = 0) :
    Calls Try.prog 29 #[.slice p1 up.length c1, .slice p2 l.length c2, .slice p3 r.length c3] w (BetPost w (betP up l r)) := by
  have RU := Lib.hid (right_any p1 up c1 w (by omega) huc h1)
  have KL := Lib.hid (fun W (hb : Below w.heap.size w W) (h0 : 0 < l.length) => kid_any p1 p2 up l c1 c2 W hu hl huc hlc (h1.below hb) (h2.below hb) hn2 h0)
  have KR := Lib.hid (fun W (hb : Below w.heap.size w W) (h0 : 0 < r.length) => kid_any p1 p3 up r c1 c3 W hu hr huc hrc (h1.below hb) (h3.below hb) hn3 h0)
  have CP := Lib.hid (fun W (hb : Below w.heap.size w W) => rcompare_any p2 p3 l r c2 c3 W (by omega) (by omega) hlc hrc (h2.below hb) (h3.below hb))
  have B0 := Lib.hid (Below.refl w.heap.size w)
  rw [bet_good hm]
  obtain ⟨res, hres⟩ : ∃ res, (if checkP (newP up l r) = 0 then (newP up l r, (0 : Int)) else (([] : List Int), (5 : Int))) = res := ⟨_, rfl⟩
  rw [hres]
  have HS := Lib.hid hres
  have hm2 := hm
  unfold mayP at hm2
  rw [Bool.and_eq_true, Bool.and_eq_true, Bool.and_eq_true, decide_eq_true_iff] at hm2
  obtain ⟨⟨⟨hcu, hbl⟩, hbr⟩, hord⟩ := hm2
  have hulen := checkP_len hcu
  have HF := Lib.hid (And.intro h1 (And.intro hn1 (And.intro (show up.length * 8 ≤ 140737488355328 by omega) hulen)))
  rw [decide_eq_true hcu] at RU
  have ug : (up.length : Int) ≤ 480 := by omega
  rw [l1, r1]
  clear hu hl hr huc hlc hrc h1 h2 h3 hn1 hn2 hn3
  have HX := Lib.hid (And.intro l1 r1)
  clear hm hres hcu hbl hbr hord KL KR CP l1 r1
  go_enter Try.func29, Try.ntmps29
  go_wp2_with (fail)
  refine (RU.out).mono ?_
  rintro e w1 ⟨rfl, hb1⟩
  have B1 := Lib.hid (t_cat B0.out hb1)
  clear hb1
  obtain ⟨qa, ca, wa, hrun, hown, hba⟩ := appendI_lit (HF.out.1.below B1.out) HF.out.2.1 HF.out.2.2.1
  have HA := Lib.hid hrun
  have OA := Lib.hid (hown.base (B' := w.heap.size) B1.out.size)
  have BA := Lib.hid (t_cat B1.out hba)
  clear hrun hown hba
  obtain ⟨g, cg, wg, hrun, hown, hgr⟩ := appendI_one (x := 1) OA.out BA.out.size (by omega)
  have HG := Lib.hid hrun
  have hbg : Below w.heap.size w wg := RoomEnd BA.out hgr (fun k e => (World.ownsRow.lt (OA.out).1 k e).1)
  obtain ⟨N, hN⟩ : ∃ N, up ++ [1] = N := ⟨_, rfl⟩
  rw [hN] at hown
  have hlen : N.length = up.length + 1 := by rw [← hN, List.length_append]; rfl
  have CN := Lib.hid (right_any (some ⟨g, 0, none⟩) N cg wg (by rw [hlen]; omega) hown.2.2 hown.holds)
  rw [hlen] at CN
  have OG := Lib.hid (And.intro hown (And.intro hbg (And.intro hlen hN)))
  clear hrun hown hgr hbg hlen hN
  by_cases hcn : checkP N = 0
  · rw [decide_eq_true hcn] at CN
    have HE := Lib.hid hcn
    clear hcn
    go_wp2_with (at_builtin; first | refine t_append_eq rfl _ _ _ rfl _ _ _ _ rfl rfl HA.out ?_ | refine t_append_eq rfl _ _ _ rfl _ _ _ _ rfl rfl HG.out ?_)
    refine (CN.out).mono ?_
    rintro e wz ⟨rfl, hbz⟩
    have BZ := Lib.hid (t_cat OG.out.2.1 hbz)
    have HZ := Lib.hid hbz
    clear hbz
    go_wp2_with (fail)
    go_ret2
    have e : newP up l r = N := by
      rw [← OG.out.2.2.2]
      obtain rfl := List.eq_nil_of_length_eq_zero HX.out.1
      obtain rfl := List.eq_nil_of_length_eq_zero HX.out.2
      rfl
    have e2 := HS.out
    rw [e, if_pos HE.out] at e2
    rw [← e2]
    exact ⟨some ⟨g, 0, none⟩, cg, (by show _ = Ending.returned (.tuple #[.slice (some ⟨g, 0, none⟩) N.length cg, .int .i64 0]); rw [OG.out.2.2.1]; rfl), OG.out.1.far HZ.out, BZ.out⟩
  · rw [decide_eq_false hcn] at CN
    have HE := Lib.hid hcn
    clear hcn
    go_wp2_with (at_builtin; first | refine t_append_eq rfl _ _ _ rfl _ _ _ _ rfl rfl HA.out ?_ | refine t_append_eq rfl _ _ _ rfl _ _ _ _ rfl rfl HG.out ?_)
    refine (CN.out).mono ?_
    rintro e wz ⟨rfl, hbz⟩
    have BZ := Lib.hid (t_cat OG.out.2.1 hbz)
    clear hbz
    go_wp2_with (fail)
    go_ret2
    have e : newP up l r = N := by
      rw [← OG.out.2.2.2]
      obtain rfl := List.eq_nil_of_length_eq_zero HX.out.1
      obtain rfl := List.eq_nil_of_length_eq_zero HX.out.2
      rfl
    have e2 := HS.out
    rw [e, if_neg HE.out] at e2
    rw [← e2]
    exact bet_none BZ.out 5
set_option maxRecDepth 100000 in
set_option maxHeartbeats 8000000 in
theorem rbet_l (p1 p2 p3 : Option Addr) (up l r : List Int) (c1 c2 c3 : Nat) (w : World) (hu : up.length * 8 ≤ 140737488355328) (hl : l.length * 8 ≤ 140737488355328) (hr : r.length * 8 ≤ 140737488355328)
    (huc : up.length ≤ c1) (hlc : l.length ≤ c2) (hrc : r.length ≤ c3) (h1 : HoldsI w p1 up) (h2 : HoldsI w p2 l) (h3 : HoldsI w p3 r) (hn1 : p1 = none → c1 = 0) (hn2 : p2 = none → c2 = 0) (hn3 : p3 = none → c3 = 0) (hm : mayP up l r = true) (l0 : 0 < l.length) (r1 : r.length = 0) :
    Calls Try.prog 29 #[.slice p1 up.length c1, .slice p2 l.length c2, .slice p3 r.length c3] w (BetPost w (betP up l r)) := by
  have RU := Lib.hid (right_any p1 up c1 w (by omega) huc h1)
  have KL := Lib.hid (fun W (hb : Below w.heap.size w W) (h0 : 0 < l.length) => kid_any p1 p2 up l c1 c2 W hu hl huc hlc (h1.below hb) (h2.below hb) hn2 h0)
  have KR := Lib.hid (fun W (hb : Below w.heap.size w W) (h0 : 0 < r.length) => kid_any p1 p3 up r c1 c3 W hu hr huc hrc (h1.below hb) (h3.below hb) hn3 h0)
  have CP := Lib.hid (fun W (hb : Below w.heap.size w W) => rcompare_any p2 p3 l r c2 c3 W (by omega) (by omega) hlc hrc (h2.below hb) (h3.below hb))
  have B0 := Lib.hid (Below.refl w.heap.size w)
  rw [bet_good hm]
  obtain ⟨res, hres⟩ : ∃ res, (if checkP (newP up l r) = 0 then (newP up l r, (0 : Int)) else (([] : List Int), (5 : Int))) = res := ⟨_, rfl⟩
  rw [hres]
  have HS := Lib.hid hres
  have hm2 := hm
  unfold mayP at hm2
  rw [Bool.and_eq_true, Bool.and_eq_true, Bool.and_eq_true, decide_eq_true_iff] at hm2
  obtain ⟨⟨⟨hcu, hbl⟩, hbr⟩, hord⟩ := hm2
  have hulen := checkP_len hcu
  have HF := Lib.hid (And.intro h1 (And.intro hn1 (And.intro (show up.length * 8 ≤ 140737488355328 by omega) hulen)))
  rw [decide_eq_true hcu] at RU
  have ug : (up.length : Int) ≤ 480 := by omega
  have kk : kidP up l = true := by
    unfold besideP at hbl
    rw [decide_eq_false (by omega), Bool.false_or] at hbl
    exact hbl
  rw [kk] at KL
  obtain ⟨hck, hne, hupk, hsk, hvk⟩ : checkP l = 0 ∧ l ≠ [] ∧ upP l = up ∧ l = up ++ behindP up l ∧ lvlB (behindP up l) = true := by
    rcases beside_facts hbl with ⟨_, e⟩ | h
    · rw [e] at l0; exact absurd l0 (by decide)
    · exact h
  have hlt := (up_split hne (checkP_ok hck).2.1 hupk).2.2
  have hlk := checkP_len hck
  have hin := (checkP_ok hck).1 _ (getD_mem hlt)
  have hroom : newP up l r = up ++ [oddUp (l.getD up.length 0)] := by
    obtain rfl := List.eq_nil_of_length_eq_zero r1
    obtain ⟨z, t, hz⟩ := List.exists_cons_of_ne_nil (lvl_ne hvk)
    have e0 : l.getD up.length 0 = z := by rw [hsk, hz, List.getD_eq_getElem?_getD, List.getElem?_append_right (Nat.le_refl _), Nat.sub_self]; rfl
    rw [e0]
    unfold newP roomP
    rw [hz]
    rfl
  obtain ⟨x, hx⟩ : ∃ x, l.getD up.length 0 = x := ⟨_, rfl⟩
  rw [hx] at hin hroom
  have ON := Lib.hid (fun W => onUp_any x hin W)
  obtain ⟨z, hz⟩ : ∃ z, oddUp x = z := ⟨_, rfl⟩
  rw [hz] at ON hroom
  have HM := Lib.hid (And.intro h2 (And.intro hlt (And.intro hx hroom)))
  have gk : (up.length : Int) < (l.length : Int) := by omega
  have gz : ((l.length : Int) == 0) = false := by rw [beq_eq_false_iff_ne]; omega
  have gy : ¬ l.length = 0 := by omega
  rw [r1]
  clear hu hl hr huc hlc hrc h1 h2 h3 hn1 hn2 hn3
  clear hm hres hcu hbl hbr hord KR CP kk hck hne hupk hsk hvk hlt hlk hulen hin hroom hx hz r1
  go_enter Try.func29, Try.ntmps29
  go_wp2_with (fail)
  refine (RU.out).mono ?_
  rintro e w1 ⟨rfl, hb1⟩
  have B1 := Lib.hid (t_cat B0.out hb1)
  clear hb1
  go_wp2_with (fail)
  refine (KL.out _ B1.out l0).mono ?_
  rintro e w2 ⟨rfl, hb2⟩
  have B2 := Lib.hid (t_cat B1.out hb2)
  clear hb2
  obtain ⟨qa, ca, wa, hrun, hown, hba⟩ := appendI_lit (HF.out.1.below B2.out) HF.out.2.1 HF.out.2.2.1
  have HA := Lib.hid hrun
  have OA := Lib.hid (hown.base (B' := w.heap.size) B2.out.size)
  have BA := Lib.hid (t_cat B2.out hba)
  clear hrun hown hba
  obtain ⟨b, off, rfl, hcell⟩ := (HM.out.1.below BA.out) l0
  have cc := hcell up.length HM.out.2.1
  rw [HM.out.2.2.1] at cc
  clear hcell
  obtain ⟨g, cg, wg, hrun, hown, hgr⟩ := appendI_one (x := z) OA.out BA.out.size (by omega)
  have HG := Lib.hid hrun
  have hbg : Below w.heap.size w wg := RoomEnd BA.out hgr (fun k e => (World.ownsRow.lt (OA.out).1 k e).1)
  obtain ⟨N, hN⟩ : ∃ N, up ++ [z] = N := ⟨_, rfl⟩
  rw [hN] at hown
  have hlen : N.length = up.length + 1 := by rw [← hN, List.length_append]; rfl
  have CN := Lib.hid (right_any (some ⟨g, 0, none⟩) N cg wg (by rw [hlen]; omega) hown.2.2 hown.holds)
  rw [hlen] at CN
  have OG := Lib.hid (And.intro hown (And.intro hbg (And.intro hlen hN)))
  clear hrun hown hgr hbg hlen hN
  by_cases hcn : checkP N = 0
  · rw [decide_eq_true hcn] at CN
    have HE := Lib.hid hcn
    clear hcn
    go_wp2_with (at_builtin; refine t_append_eq rfl _ _ _ rfl _ _ _ _ rfl rfl HA.out ?_)
    refine (ON.out _).mono ?_
    rintro e w' ⟨rfl, rfl⟩
    go_wp2_with (at_builtin; refine t_append_eq rfl _ _ _ rfl _ _ _ _ rfl rfl HG.out ?_)
    refine (CN.out).mono ?_
    rintro e wz ⟨rfl, hbz⟩
    have BZ := Lib.hid (t_cat OG.out.2.1 hbz)
    have HZ := Lib.hid hbz
    clear hbz
    go_wp2_with (fail)
    go_ret2
    have e : newP up l r = N := by
      rw [← OG.out.2.2.2]
      exact HM.out.2.2.2
    have e2 := HS.out
    rw [e, if_pos HE.out] at e2
    rw [← e2]
    exact ⟨some ⟨g, 0, none⟩, cg, (by show _ = Ending.returned (.tuple #[.slice (some ⟨g, 0, none⟩) N.length cg, .int .i64 0]); rw [OG.out.2.2.1]; rfl), OG.out.1.far HZ.out, BZ.out⟩
  · rw [decide_eq_false hcn] at CN
    have HE := Lib.hid hcn
    clear hcn
    go_wp2_with (at_builtin; refine t_append_eq rfl _ _ _ rfl _ _ _ _ rfl rfl HA.out ?_)
    refine (ON.out _).mono ?_
    rintro e w' ⟨rfl, rfl⟩
    go_wp2_with (at_builtin; refine t_append_eq rfl _ _ _ rfl _ _ _ _ rfl rfl HG.out ?_)
    refine (CN.out).mono ?_
    rintro e wz ⟨rfl, hbz⟩
    have BZ := Lib.hid (t_cat OG.out.2.1 hbz)
    clear hbz
    go_wp2_with (fail)
    go_ret2
    have e : newP up l r = N := by
      rw [← OG.out.2.2.2]
      exact HM.out.2.2.2
    have e2 := HS.out
    rw [e, if_neg HE.out] at e2
    rw [← e2]
    exact bet_none BZ.out 5
set_option maxRecDepth 100000 in
set_option maxHeartbeats 8000000 in
theorem rbet_r (p1 p2 p3 : Option Addr) (up l r : List Int) (c1 c2 c3 : Nat) (w : World) (hu : up.length * 8 ≤ 140737488355328) (hl : l.length * 8 ≤ 140737488355328) (hr : r.length * 8 ≤ 140737488355328)
    (huc : up.length ≤ c1) (hlc : l.length ≤ c2) (hrc : r.length ≤ c3) (h1 : HoldsI w p1 up) (h2 : HoldsI w p2 l) (h3 : HoldsI w p3 r) (hn1 : p1 = none → c1 = 0) (hn2 : p2 = none → c2 = 0) (hn3 : p3 = none → c3 = 0) (hm : mayP up l r = true) (r0 : 0 < r.length) (l1 : l.length = 0) :
    Calls Try.prog 29 #[.slice p1 up.length c1, .slice p2 l.length c2, .slice p3 r.length c3] w (BetPost w (betP up l r)) := by
  have RU := Lib.hid (right_any p1 up c1 w (by omega) huc h1)
  have KL := Lib.hid (fun W (hb : Below w.heap.size w W) (h0 : 0 < l.length) => kid_any p1 p2 up l c1 c2 W hu hl huc hlc (h1.below hb) (h2.below hb) hn2 h0)
  have KR := Lib.hid (fun W (hb : Below w.heap.size w W) (h0 : 0 < r.length) => kid_any p1 p3 up r c1 c3 W hu hr huc hrc (h1.below hb) (h3.below hb) hn3 h0)
  have CP := Lib.hid (fun W (hb : Below w.heap.size w W) => rcompare_any p2 p3 l r c2 c3 W (by omega) (by omega) hlc hrc (h2.below hb) (h3.below hb))
  have B0 := Lib.hid (Below.refl w.heap.size w)
  rw [bet_good hm]
  obtain ⟨res, hres⟩ : ∃ res, (if checkP (newP up l r) = 0 then (newP up l r, (0 : Int)) else (([] : List Int), (5 : Int))) = res := ⟨_, rfl⟩
  rw [hres]
  have HS := Lib.hid hres
  have hm2 := hm
  unfold mayP at hm2
  rw [Bool.and_eq_true, Bool.and_eq_true, Bool.and_eq_true, decide_eq_true_iff] at hm2
  obtain ⟨⟨⟨hcu, hbl⟩, hbr⟩, hord⟩ := hm2
  have hulen := checkP_len hcu
  have HF := Lib.hid (And.intro h1 (And.intro hn1 (And.intro (show up.length * 8 ≤ 140737488355328 by omega) hulen)))
  rw [decide_eq_true hcu] at RU
  have ug : (up.length : Int) ≤ 480 := by omega
  have kk : kidP up r = true := by
    unfold besideP at hbr
    rw [decide_eq_false (by omega), Bool.false_or] at hbr
    exact hbr
  rw [kk] at KR
  obtain ⟨hck, hne, hupk, hsk, hvk⟩ : checkP r = 0 ∧ r ≠ [] ∧ upP r = up ∧ r = up ++ behindP up r ∧ lvlB (behindP up r) = true := by
    rcases beside_facts hbr with ⟨_, e⟩ | h
    · rw [e] at r0; exact absurd r0 (by decide)
    · exact h
  have hlt := (up_split hne (checkP_ok hck).2.1 hupk).2.2
  have hlk := checkP_len hck
  have hin := (checkP_ok hck).1 _ (getD_mem hlt)
  have hroom : newP up l r = up ++ [oddDn (r.getD up.length 0)] := by
    obtain rfl := List.eq_nil_of_length_eq_zero l1
    obtain ⟨z, t, hz⟩ := List.exists_cons_of_ne_nil (lvl_ne hvk)
    have e0 : r.getD up.length 0 = z := by rw [hsk, hz, List.getD_eq_getElem?_getD, List.getElem?_append_right (Nat.le_refl _), Nat.sub_self]; rfl
    rw [e0]
    unfold newP roomP
    rw [hz]
    rfl
  obtain ⟨x, hx⟩ : ∃ x, r.getD up.length 0 = x := ⟨_, rfl⟩
  rw [hx] at hin hroom
  have ON := Lib.hid (fun W => onDn_any x hin W)
  obtain ⟨z, hz⟩ : ∃ z, oddDn x = z := ⟨_, rfl⟩
  rw [hz] at ON hroom
  have HM := Lib.hid (And.intro h3 (And.intro hlt (And.intro hx hroom)))
  have gk : (up.length : Int) < (r.length : Int) := by omega
  have gz : ((r.length : Int) == 0) = false := by rw [beq_eq_false_iff_ne]; omega
  have gy : ¬ r.length = 0 := by omega
  rw [l1]
  clear hu hl hr huc hlc hrc h1 h2 h3 hn1 hn2 hn3
  clear hm hres hcu hbl hbr hord KL CP kk hck hne hupk hsk hvk hlt hlk hulen hin hroom hx hz l1
  go_enter Try.func29, Try.ntmps29
  go_wp2_with (fail)
  refine (RU.out).mono ?_
  rintro e w1 ⟨rfl, hb1⟩
  have B1 := Lib.hid (t_cat B0.out hb1)
  clear hb1
  go_wp2_with (fail)
  refine (KR.out _ B1.out r0).mono ?_
  rintro e w2 ⟨rfl, hb2⟩
  have B2 := Lib.hid (t_cat B1.out hb2)
  clear hb2
  obtain ⟨qa, ca, wa, hrun, hown, hba⟩ := appendI_lit (HF.out.1.below B2.out) HF.out.2.1 HF.out.2.2.1
  have HA := Lib.hid hrun
  have OA := Lib.hid (hown.base (B' := w.heap.size) B2.out.size)
  have BA := Lib.hid (t_cat B2.out hba)
  clear hrun hown hba
  obtain ⟨b, off, rfl, hcell⟩ := (HM.out.1.below BA.out) r0
  have cc := hcell up.length HM.out.2.1
  rw [HM.out.2.2.1] at cc
  clear hcell
  obtain ⟨g, cg, wg, hrun, hown, hgr⟩ := appendI_one (x := z) OA.out BA.out.size (by omega)
  have HG := Lib.hid hrun
  have hbg : Below w.heap.size w wg := RoomEnd BA.out hgr (fun k e => (World.ownsRow.lt (OA.out).1 k e).1)
  obtain ⟨N, hN⟩ : ∃ N, up ++ [z] = N := ⟨_, rfl⟩
  rw [hN] at hown
  have hlen : N.length = up.length + 1 := by rw [← hN, List.length_append]; rfl
  have CN := Lib.hid (right_any (some ⟨g, 0, none⟩) N cg wg (by rw [hlen]; omega) hown.2.2 hown.holds)
  rw [hlen] at CN
  have OG := Lib.hid (And.intro hown (And.intro hbg (And.intro hlen hN)))
  clear hrun hown hgr hbg hlen hN
  by_cases hcn : checkP N = 0
  · rw [decide_eq_true hcn] at CN
    have HE := Lib.hid hcn
    clear hcn
    go_wp2_with (at_builtin; refine t_append_eq rfl _ _ _ rfl _ _ _ _ rfl rfl HA.out ?_)
    refine (ON.out _).mono ?_
    rintro e w' ⟨rfl, rfl⟩
    go_wp2_with (at_builtin; refine t_append_eq rfl _ _ _ rfl _ _ _ _ rfl rfl HG.out ?_)
    refine (CN.out).mono ?_
    rintro e wz ⟨rfl, hbz⟩
    have BZ := Lib.hid (t_cat OG.out.2.1 hbz)
    have HZ := Lib.hid hbz
    clear hbz
    go_wp2_with (fail)
    go_ret2
    have e : newP up l r = N := by
      rw [← OG.out.2.2.2]
      exact HM.out.2.2.2
    have e2 := HS.out
    rw [e, if_pos HE.out] at e2
    rw [← e2]
    exact ⟨some ⟨g, 0, none⟩, cg, (by show _ = Ending.returned (.tuple #[.slice (some ⟨g, 0, none⟩) N.length cg, .int .i64 0]); rw [OG.out.2.2.1]; rfl), OG.out.1.far HZ.out, BZ.out⟩
  · rw [decide_eq_false hcn] at CN
    have HE := Lib.hid hcn
    clear hcn
    go_wp2_with (at_builtin; refine t_append_eq rfl _ _ _ rfl _ _ _ _ rfl rfl HA.out ?_)
    refine (ON.out _).mono ?_
    rintro e w' ⟨rfl, rfl⟩
    go_wp2_with (at_builtin; refine t_append_eq rfl _ _ _ rfl _ _ _ _ rfl rfl HG.out ?_)
    refine (CN.out).mono ?_
    rintro e wz ⟨rfl, hbz⟩
    have BZ := Lib.hid (t_cat OG.out.2.1 hbz)
    clear hbz
    go_wp2_with (fail)
    go_ret2
    have e : newP up l r = N := by
      rw [← OG.out.2.2.2]
      exact HM.out.2.2.2
    have e2 := HS.out
    rw [e, if_neg HE.out] at e2
    rw [← e2]
    exact bet_none BZ.out 5
end Go.Proofs.Ytaiiigknlnhdgaa
