/- Proved here: the document's Between with two neighbours. -/
import Derived.Test.YtaiiigknlnhdgaaLabRBet1
namespace Go.Proofs.Ytaiiigknlnhdgaa
open Go.RowKit

def RbtRel (w : World) (up l r : List Int) (a v : Value) (wr : World) : Prop :=
  ∃ (K : Nat) (q : Option Addr) (c : Nat), a = .slice q K c ∧ v = .int .i64 (K : Int) ∧ up.length ≤ K ∧ K < l.length ∧ K < r.length ∧
    Hid (l.take K = r.take K ∧ lvlB (l.drop K) = true ∧ lvlB (r.drop K) = true ∧ cmpN (l.drop K) (r.drop K) = -1 ∧ OwnI wr w.heap.size q c (l.take K) ∧ Below w.heap.size w wr)
theorem take_ext {l : List Int} {k : Nat} (h : k < l.length) : l.take (k + 1) = l.take k ++ [l.getD k 0] := by
  rw [List.take_add_one, List.getElem?_eq_getElem h, List.getD_eq_getElem?_getD, List.getElem?_eq_getElem h]; rfl
theorem both_new {up l r : List Int} (h : mayP up l r = true) (l0 : 0 < l.length) (r0 : 0 < r.length) :
    newP up l r = betB l r ∧ up.length < l.length ∧ up.length < r.length ∧ l.take up.length = up ∧ r.take up.length = up ∧ lvlB (l.drop up.length) = true ∧ lvlB (r.drop up.length) = true ∧
    cmpN (l.drop up.length) (r.drop up.length) = -1 ∧ (∀ x ∈ l, InB x) ∧ (∀ x ∈ r, InB x) ∧ l.length ≤ 480 ∧ r.length ≤ 480 ∧ kidP up l = true ∧ kidP up r = true ∧ cmpN l r = -1 := by
  unfold mayP at h
  rw [Bool.and_eq_true, Bool.and_eq_true, Bool.and_eq_true, decide_eq_true_iff] at h
  obtain ⟨⟨⟨_, hbl⟩, hbr⟩, ho⟩ := h
  have side : ∀ k : List Int, 0 < k.length → besideP up k = true → behindP up k = k.drop up.length ∧ k = up ++ k.drop up.length ∧ lvlB (k.drop up.length) = true ∧ up.length < k.length ∧ (∀ x ∈ k, InB x) ∧ k.length ≤ 480 ∧ kidP up k = true := by
    intro k k0 hb
    rcases beside_facts hb with ⟨_, e⟩ | ⟨hck, hne, hupk, _, _⟩
    · rw [e] at k0; exact absurd k0 (by decide)
    · obtain ⟨s1, s2, s3⟩ := up_split hne (checkP_ok hck).2.1 hupk
      refine ⟨by unfold behindP; rw [if_neg (by omega)], s1, s2, s3, (checkP_ok hck).1, checkP_len hck, ?_⟩
      unfold kidP
      rw [decide_eq_true hck, decide_eq_true hupk]; rfl
  obtain ⟨a1, a2, a3, a4, a5, a6, a7⟩ := side l l0 hbl
  obtain ⟨b1, b2, b3, b4, b5, b6, b7⟩ := side r r0 hbr
  have hlr : cmpN l r = -1 := by
    unfold orderP at ho
    rw [decide_eq_false (by omega), decide_eq_false (by omega)] at ho
    have h1 : cmpN l r < 0 := by simpa using ho
    have := cmpN_ord.rng l r
    omega
  have t1 : l.take up.length = up := by conv => lhs; rw [a2]
                                        rw [List.take_left]
  have t2 : r.take up.length = up := by conv => lhs; rw [b2]
                                        rw [List.take_left]
  have hc : cmpN (l.drop up.length) (r.drop up.length) = -1 := by
    have e := hlr
    rw [a2, b2, cmpN_app] at e
    exact e
  refine ⟨?_, a4, b4, t1, t2, a3, b3, hc, a5, b5, a6, b6, a7, b7, hlr⟩
  rw [bet_drop l r up.length (by rw [t1, t2]) (by omega) (by omega), t1]
  unfold newP roomP
  rw [a1, b1, if_pos (by rw [List.length_drop]; omega), if_pos (by rw [List.length_drop]; omega)]
set_option maxRecDepth 100000 in
set_option maxHeartbeats 8000000 in
theorem rbet_both (p1 p2 p3 : Option Addr) (up l r : List Int) (c1 c2 c3 : Nat) (w : World) (hu : up.length * 8 ≤ 140737488355328) (hl : l.length * 8 ≤ 140737488355328) (hr : r.length * 8 ≤ 140737488355328)
    (huc : up.length ≤ c1) (hlc : l.length ≤ c2) (hrc : r.length ≤ c3) (h1 : HoldsI w p1 up) (h2 : HoldsI w p2 l) (h3 : HoldsI w p3 r) (hn1 : p1 = none → c1 = 0) (hn2 : p2 = none → c2 = 0) (hn3 : p3 = none → c3 = 0) (hm : mayP up l r = true) (l0 : 0 < l.length) (r0 : 0 < r.length) :
    Calls Try.prog 29 #[.slice p1 up.length c1, .slice p2 l.length c2, .slice p3 r.length c3] w (BetPost w (betP up l r)) := by
  have RU := Lib.hid (right_any p1 up c1 w (by omega) huc h1)
  have KL := Lib.hid (fun W (hb : Below w.heap.size w W) (h0 : 0 < l.length) => kid_any p1 p2 up l c1 c2 W hu hl huc hlc (h1.below hb) (h2.below hb) hn2 h0)
  have KR := Lib.hid (fun W (hb : Below w.heap.size w W) (h0 : 0 < r.length) => kid_any p1 p3 up r c1 c3 W hu hr huc hrc (h1.below hb) (h3.below hb) hn3 h0)
  have CP := Lib.hid (fun W (hb : Below w.heap.size w W) => rcompare_any p2 p3 l r c2 c3 W (by omega) (by omega) hlc hrc (h2.below hb) (h3.below hb))
  have B0 := Lib.hid (Below.refl w.heap.size w)
  rw [bet_good hm]
  obtain ⟨res, hres⟩ : ∃ res, (if checkP (newP up l r) = 0 then (newP up l r, (0 : Int)) else (([] : List Int), (5 : Int))) = res := ⟨_, rfl⟩
  rw [hres]
  have HS := Lib.hid hres
  obtain ⟨hnew, hll, hrl, t1, t2, v1, v2, hcd, i1, i2, x1, x2, kl, kr, hlr⟩ := both_new hm l0 r0
  have hcu : checkP up = 0 := by
    unfold mayP at hm
    rw [Bool.and_eq_true, Bool.and_eq_true, Bool.and_eq_true, decide_eq_true_iff] at hm
    exact hm.1.1.1
  rw [decide_eq_true hcu] at RU
  rw [kl] at KL
  rw [kr] at KR
  rw [hlr] at CP
  have HF := Lib.hid (And.intro h1 (And.intro hn1 (And.intro (show up.length * 8 ≤ 140737488355328 by omega) trivial)))
  have H2 := Lib.hid h2
  have H3 := Lib.hid h3
  have HI := Lib.hid (And.intro i1 (And.intro i2 (And.intro x1 x2)))
  have H0 := Lib.hid (And.intro t1 (And.intro t2 (And.intro v1 (And.intro v2 (And.intro hcd (And.intro hll hrl))))))
  have HNEW := Lib.hid hnew
  have gl : (l.length : Int) ≤ 480 := by omega
  have gr : (r.length : Int) ≤ 480 := by omega
  have gz : ((l.length : Int) == 0) = false := by rw [beq_eq_false_iff_ne]; omega
  have gy : ¬ l.length = 0 := by omega
  have gz2 : ((r.length : Int) == 0) = false := by rw [beq_eq_false_iff_ne]; omega
  have gy2 : ¬ r.length = 0 := by omega
  clear hu hl hr huc hlc hrc h1 h2 h3 hn1 hn2 hn3
  clear hm hres hcu hnew hll hrl t1 t2 v1 v2 hcd i1 i2 x1 x2 kl kr hlr
  go_enter Try.func29, Try.ntmps29
  go_wp2_with (fail)
  refine (RU.out).mono ?_
  rintro e w1 ⟨rfl, hb1⟩
  have B1 := Lib.hid (t_cat B0.out hb1)
  clear hb1
  go_wp2_with (fail)
  refine (KL.out _ B1.out l0).mono ?_
  rintro e w2 ⟨rfl, hb2⟩
  have B2 := Lib.hid (t_cat B1.out hb2)
  clear hb2
  go_wp2_with (fail)
  refine (KR.out _ B2.out r0).mono ?_
  rintro e w3 ⟨rfl, hb3⟩
  have B3 := Lib.hid (t_cat B2.out hb3)
  clear hb3
  go_wp2_with (fail)
  refine (CP.out _ B3.out).mono ?_
  rintro e w4 ⟨rfl, hb4⟩
  have B4 := Lib.hid (t_cat B3.out hb4)
  clear hb4
  obtain ⟨qa, ca, wa, hrun, hown, hba⟩ := appendI_lit (HF.out.1.below B4.out) HF.out.2.1 HF.out.2.2.1
  have HA := Lib.hid hrun
  have OA := Lib.hid (hown.base (B' := w.heap.size) B4.out.size)
  have BA := Lib.hid (t_cat B4.out hba)
  clear hrun hown hba
  go_wp2_with (at_builtin; refine t_append_eq rfl _ _ _ rfl _ _ _ _ rfl rfl HA.out ?_)
  go_loopw [8, 9] (fun a v wr => RbtRel w up l r a v wr) (fun _ v _ => l.length - (intOf v).toNat)
  case atStart =>
    obtain ⟨t1, t2, v1, v2, hcd, hll, hrl⟩ := H0.out
    exact ⟨up.length, qa, ca, rfl, rfl, Nat.le_refl _, hll, hrl, Lib.hid ⟨by rw [t1, t2], v1, v2, hcd, by rw [t1]; exact OA.out, BA.out⟩⟩
  case round =>
    clear RU KL KR CP B0 B1 B2 B3 B4 HA OA BA HF
    obtain ⟨K, q, c, rfl, rfl, hK, hk1, hk2, HK⟩ := hrel
    obtain ⟨b, off, rfl, hcl⟩ := (H2.out.below HK.out.2.2.2.2.2) (by omega)
    have c1' := hcl K hk1
    have hcl1 := Lib.hid hcl
    clear hcl
    obtain ⟨b2, off2, rfl, hcl⟩ := (H3.out.below HK.out.2.2.2.2.2) (by omega)
    have c2' := hcl K hk2
    have hcl2 := Lib.hid hcl
    clear hcl
    have e1 := drop_getD hk1
    have e2 := drop_getD hk2
    have n1 := HI.out.1 _ (getD_mem hk1)
    have f1 := take_ext hk1
    have f2 := take_ext hk2
    obtain ⟨x, hx⟩ : ∃ x, l.getD K 0 = x := ⟨_, rfl⟩
    obtain ⟨y, hy⟩ : ∃ y, r.getD K 0 = y := ⟨_, rfl⟩
    rw [hx] at c1' e1 n1 f1
    rw [hy] at c2' e2 f2
    have d1 : wr.drew.cell? ⟨b, off + K, none⟩ = some (.int .i64 x) := c1'
    have d2 : wr.drew.cell? ⟨b2, off2 + K, none⟩ = some (.int .i64 y) := c2'
    have HD := Lib.hid (And.intro e1 (And.intro e2 (And.intro f1 f2)))
    obtain ⟨T, hT⟩ : ∃ T, l.take K = T := ⟨_, rfl⟩
    have htl : T.length = K := by rw [← hT, List.length_take]; omega
    have HT := Lib.hid htl
    have HTT := Lib.hid hT
    have ow := HK.out.2.2.2.2.1
    rw [hT] at ow
    have kb : (K : Int) < (l.length : Int) := by omega
    have kr : (K : Int) < (r.length : Int) := by omega
    have HKK := Lib.hid (And.intro hk1 (And.intro hk2 hK))
    clear e1 e2 f1 f2 hx hy hT htl
    by_cases hxy : x = y
    · have hq : (x == y) = true := by rw [hxy]; simp
      have HE := Lib.hid hxy
      have OT := Lib.hid (ow.far ((Below.refl wr.heap.size wr).drew))
      have BT := Lib.hid (HK.out.2.2.2.2.2.drew)
      obtain ⟨g, cg, wg, hrun, hown, hgr⟩ := appendI_one (x := x) OT.out BT.out.size (by rw [HT.out]; omega)
      rw [HT.out] at hrun hgr
      have HG := Lib.hid hrun
      have hbg : Below w.heap.size w wg := RoomEnd BT.out hgr (fun k e => by have := World.ownsRow.lt (OT.out).1; rw [HT.out] at this; exact (this k e).1)
      have OG := Lib.hid (And.intro hown hbg)
      clear hrun hown hgr hbg ow hxy n1 hk1 hk2 hK
      go_wp2_with (fail)
      go_region
      go_wp2_with (at_builtin; refine t_append_eq rfl _ _ _ rfl _ _ _ _ rfl rfl HG.out ?_)
      go_round
      case rel =>
        obtain ⟨t0, a1, a2, a3, _, _⟩ := HK.out
        obtain ⟨e1, e2, f1, f2⟩ := HD.out
        rw [e1] at a1 a3
        rw [e2] at a2 a3
        obtain rfl := HE.out
        obtain ⟨s0, s1, s2, s3⟩ := lvl_same a1 a2 a3
        have q1 := List.length_pos_iff.2 (lvl_ne s1)
        have q2 := List.length_pos_iff.2 (lvl_ne s2)
        rw [List.length_drop] at q1 q2
        refine ⟨K + 1, _, cg, rfl, by go_num, by have := HKK.out.2.2; omega, by omega, by omega, Lib.hid ⟨?_, s1, s2, s3, ?_, OG.out.2⟩⟩
        · rw [f1, f2, t0]
        · rw [f1, HTT.out]; exact OG.out.1
      case measure => have := HKK.out.1; simp [intOf]; omega
    · have hq : (x == y) = false := by rw [beq_eq_false_iff_ne]; exact hxy
      have hbt : betB l r = T ++ betB (x :: l.drop (K + 1)) (y :: r.drop (K + 1)) := by
        rw [bet_drop l r K HK.out.1 (by omega) (by omega), HD.out.1, HD.out.2.1, HTT.out]
      have hlt : x < y := by
        have a3 := HK.out.2.2.2.1
        rw [HD.out.1, HD.out.2.1] at a3
        rcases cmpN_lt_head a3 with h | h
        · exact h
        · exact absurd h hxy
      have hv1 := HK.out.2.1
      have hv2 := HK.out.2.2.1
      rw [HD.out.1] at hv1
      rw [HD.out.2.1] at hv2
      have OT := Lib.hid (ow.far ((Below.refl wr.heap.size wr).drew.drew))
      have BT := Lib.hid (HK.out.2.2.2.2.2.drew.drew)
      have HN := Lib.hid (And.intro hxy (And.intro hbt (And.intro hv1 hv2)))
      have d11 : wr.drew.drew.cell? ⟨b, off + K, none⟩ = some (.int .i64 x) := c1'
      have d22 : wr.drew.drew.cell? ⟨b2, off2 + K, none⟩ = some (.int .i64 y) := c2'
      have xa := n1.1
      have xb := n1.2
      clear hk1 hk2 hK n1 ow hbt hv1 hv2 hxy
      cases hox : oddI x
      · have hev : oddI (x + 1) = true := by rw [oddI_not] at hox; rw [oddI_iff]; omega
        have O1 := Lib.hid (fun W => rodd_any (x + 1) W)
        rw [hev] at O1
        have O2 := Lib.hid (fun W => rodd_any x W)
        rw [hox] at O2
        have hz := up_ev hox
        by_cases w1 : x + 1 < y
        · have HW := Lib.hid (And.intro hz w1)
          clear hz hox hev
          obtain ⟨g, cg, wg, hrun, hown, hgr⟩ := appendI_one (x := x + 1) OT.out BT.out.size (by rw [HT.out]; omega)
          rw [HT.out] at hrun hgr
          have HG := Lib.hid hrun
          have hbg : Below w.heap.size w wg := RoomEnd BT.out hgr (fun k e => by have := World.ownsRow.lt (OT.out).1; rw [HT.out] at this; exact (this k e).1)
          obtain ⟨N, hN⟩ : ∃ N, T ++ [x + 1] = N := ⟨_, rfl⟩
          rw [hN] at hown
          have hlen : N.length = K + 1 := by rw [← hN, List.length_append, HT.out]; rfl
          have CN := Lib.hid (right_any (some ⟨g, 0, none⟩) N cg wg (by rw [hlen]; omega) hown.2.2 hown.holds)
          rw [hlen] at CN
          have OG := Lib.hid (And.intro hown (And.intro hbg (And.intro hlen hN)))
          clear hrun hown hgr hbg hlen hN
          by_cases hcn : checkP N = 0
          · rw [decide_eq_true hcn] at CN
            have HE := Lib.hid hcn
            clear hcn
            go_wp2_with (fail)
            go_region
            go_wp2_with (fail)
            go_region
            go_wp2_with (fail)
            refine (O1.out _).mono ?_
            rintro e w' ⟨rfl, rfl⟩
            go_wp2_with (at_builtin; refine t_append_eq rfl _ _ _ rfl _ _ _ _ rfl rfl HG.out ?_)
            refine (CN.out).mono ?_
            rintro e wz ⟨rfl, hbz⟩
            have BZ := Lib.hid (t_cat OG.out.2.1 hbz)
            have HZ := Lib.hid hbz
            clear hbz
            go_wp2_with (fail)
            go_ret2
            have e : newP up l r = N := by
              rw [← OG.out.2.2.2, HNEW.out, HN.out.2.1, betB, if_neg HN.out.1, HW.out.1, if_pos HW.out.2]
            have e2 := HS.out
            rw [e, if_pos HE.out] at e2
            rw [← e2]
            exact ⟨some ⟨g, 0, none⟩, cg, (by show _ = Ending.returned (.tuple #[.slice (some ⟨g, 0, none⟩) N.length cg, .int .i64 0]); rw [OG.out.2.2.1]; rfl), OG.out.1.far HZ.out, BZ.out⟩
          · rw [decide_eq_false hcn] at CN
            have HE := Lib.hid hcn
            clear hcn
            go_wp2_with (fail)
            go_region
            go_wp2_with (fail)
            go_region
            go_wp2_with (fail)
            refine (O1.out _).mono ?_
            rintro e w' ⟨rfl, rfl⟩
            go_wp2_with (at_builtin; refine t_append_eq rfl _ _ _ rfl _ _ _ _ rfl rfl HG.out ?_)
            refine (CN.out).mono ?_
            rintro e wz ⟨rfl, hbz⟩
            have BZ := Lib.hid (t_cat OG.out.2.1 hbz)
            clear hbz
            go_wp2_with (fail)
            go_ret2
            have e : newP up l r = N := by
              rw [← OG.out.2.2.2, HNEW.out, HN.out.2.1, betB, if_neg HN.out.1, HW.out.1, if_pos HW.out.2]
            have e2 := HS.out
            rw [e, if_neg HE.out] at e2
            rw [← e2]
            exact bet_none BZ.out 5
        · have hy2 : (y == x + 2) = false := by rw [beq_eq_false_iff_ne]; omega
          have htail := lvl_even HN.out.2.2.1 hox
          have hk9 : K + 1 < l.length := by
            have := List.length_pos_iff.2 (lvl_ne htail)
            rw [List.length_drop] at this; omega
          have cc : wr.drew.drew.cell? ⟨b, off + (K + 1), none⟩ = some (.int .i64 (l.getD (K + 1) 0)) := hcl1.out (K + 1) hk9
          have hin := HI.out.1 _ (getD_mem hk9)
          obtain ⟨u, hu⟩ : ∃ u, l.getD (K + 1) 0 = u := ⟨_, rfl⟩
          rw [hu] at cc hin
          have OU := Lib.hid (fun W => onUp_any u hin W)
          obtain ⟨v, hv⟩ : ∃ v, oddUp u = v := ⟨_, rfl⟩
          rw [hv] at OU
          have gk : (K : Int) + 1 < (l.length : Int) := by omega
          have HW := Lib.hid (And.intro hz (And.intro w1 (And.intro hy2 (And.intro hu (And.intro hv hox)))))
          clear hz hox hev htail hk9 hin hu hv
          obtain ⟨g, cg, wg, hrun, hown, hgr⟩ := appendI_two (x := x) (y := v) OT.out BT.out.size (by rw [HT.out]; omega)
          rw [HT.out] at hrun hgr
          have HG := Lib.hid hrun
          have hbg : Below w.heap.size w wg := RoomEnd BT.out hgr (fun k e => by have := World.ownsRow.lt (OT.out).1; rw [HT.out] at this; exact (this k e).1)
          obtain ⟨N, hN⟩ : ∃ N, T ++ [x, v] = N := ⟨_, rfl⟩
          rw [hN] at hown
          have hlen : N.length = K + 2 := by rw [← hN, List.length_append, HT.out]; rfl
          have CN := Lib.hid (right_any (g) N cg wg (by rw [hlen]; omega) hown.2.2 hown.holds)
          rw [hlen] at CN
          have OG := Lib.hid (And.intro hown (And.intro hbg (And.intro hlen hN)))
          clear hrun hown hgr hbg hlen hN
          by_cases hcn : checkP N = 0
          · rw [decide_eq_true hcn] at CN
            have HE := Lib.hid hcn
            clear hcn
            go_wp2_with (fail)
            go_region
            go_wp2_with (fail)
            go_region
            go_wp2_with (fail)
            refine (O1.out _).mono ?_
            rintro e w' ⟨rfl, rfl⟩
            go_wp2_with (fail)
            refine (O2.out _).mono ?_
            rintro e w' ⟨rfl, rfl⟩
            go_wp2_with (fail)
            refine (OU.out _).mono ?_
            rintro e w' ⟨rfl, rfl⟩
            go_wp2_with (at_builtin; refine t_append_eq rfl _ _ _ rfl _ _ _ _ rfl rfl HG.out ?_)
            refine (CN.out).mono ?_
            rintro e wz ⟨rfl, hbz⟩
            have BZ := Lib.hid (t_cat OG.out.2.1 hbz)
            have HZ := Lib.hid hbz
            clear hbz
            go_wp2_with (fail)
            go_ret2
            have e : newP up l r = N := by
              obtain ⟨hz, w1, hy2, hu, hv, hox⟩ := HW.out
              rw [beq_eq_false_iff_ne] at hy2
              rw [← OG.out.2.2.2, HNEW.out, HN.out.2.1, betB, if_neg HN.out.1, hz, if_neg (Int.not_lt.2 w1), if_neg hy2, hox, headD_drop_i l, hu, hv]; rfl
            have e2 := HS.out
            rw [e, if_pos HE.out] at e2
            rw [← e2]
            exact ⟨g, cg, (by show _ = Ending.returned (.tuple #[.slice (g) N.length cg, .int .i64 0]); rw [OG.out.2.2.1]; rfl), OG.out.1.far HZ.out, BZ.out⟩
          · rw [decide_eq_false hcn] at CN
            have HE := Lib.hid hcn
            clear hcn
            go_wp2_with (fail)
            go_region
            go_wp2_with (fail)
            go_region
            go_wp2_with (fail)
            refine (O1.out _).mono ?_
            rintro e w' ⟨rfl, rfl⟩
            go_wp2_with (fail)
            refine (O2.out _).mono ?_
            rintro e w' ⟨rfl, rfl⟩
            go_wp2_with (fail)
            refine (OU.out _).mono ?_
            rintro e w' ⟨rfl, rfl⟩
            go_wp2_with (at_builtin; refine t_append_eq rfl _ _ _ rfl _ _ _ _ rfl rfl HG.out ?_)
            refine (CN.out).mono ?_
            rintro e wz ⟨rfl, hbz⟩
            have BZ := Lib.hid (t_cat OG.out.2.1 hbz)
            clear hbz
            go_wp2_with (fail)
            go_ret2
            have e : newP up l r = N := by
              obtain ⟨hz, w1, hy2, hu, hv, hox⟩ := HW.out
              rw [beq_eq_false_iff_ne] at hy2
              rw [← OG.out.2.2.2, HNEW.out, HN.out.2.1, betB, if_neg HN.out.1, hz, if_neg (Int.not_lt.2 w1), if_neg hy2, hox, headD_drop_i l, hu, hv]; rfl
            have e2 := HS.out
            rw [e, if_neg HE.out] at e2
            rw [← e2]
            exact bet_none BZ.out 5
      · have hev : oddI (x + 1) = false := by rw [oddI_iff] at hox; rw [oddI_not]; omega
        have O1 := Lib.hid (fun W => rodd_any (x + 1) W)
        rw [hev] at O1
        have O2 := Lib.hid (fun W => rodd_any x W)
        rw [hox] at O2
        have hz := up_od hox
        have h12 : x + 1 + 1 = x + 2 := by omega
        by_cases w1 : x + 2 < y
        · have w2 : x + 1 + 1 < y := by omega
          have HW := Lib.hid (And.intro hz w1)
          clear hz hox hev
          obtain ⟨g, cg, wg, hrun, hown, hgr⟩ := appendI_one (x := x + 2) OT.out BT.out.size (by rw [HT.out]; omega)
          rw [HT.out] at hrun hgr
          have HG := Lib.hid hrun
          have hbg : Below w.heap.size w wg := RoomEnd BT.out hgr (fun k e => by have := World.ownsRow.lt (OT.out).1; rw [HT.out] at this; exact (this k e).1)
          obtain ⟨N, hN⟩ : ∃ N, T ++ [x + 2] = N := ⟨_, rfl⟩
          rw [hN] at hown
          have hlen : N.length = K + 1 := by rw [← hN, List.length_append, HT.out]; rfl
          have CN := Lib.hid (right_any (some ⟨g, 0, none⟩) N cg wg (by rw [hlen]; omega) hown.2.2 hown.holds)
          rw [hlen] at CN
          have OG := Lib.hid (And.intro hown (And.intro hbg (And.intro hlen hN)))
          clear hrun hown hgr hbg hlen hN
          by_cases hcn : checkP N = 0
          · rw [decide_eq_true hcn] at CN
            have HE := Lib.hid hcn
            clear hcn
            go_wp2_with (fail)
            go_region
            go_wp2_with (fail)
            go_region
            go_wp2_with (fail)
            refine (O1.out _).mono ?_
            rintro e w' ⟨rfl, rfl⟩
            go_wp2_with (at_builtin; refine t_append_eq rfl _ _ _ rfl _ _ _ _ rfl rfl HG.out ?_)
            refine (CN.out).mono ?_
            rintro e wz ⟨rfl, hbz⟩
            have BZ := Lib.hid (t_cat OG.out.2.1 hbz)
            have HZ := Lib.hid hbz
            clear hbz
            go_wp2_with (fail)
            go_ret2
            have e : newP up l r = N := by
              rw [← OG.out.2.2.2, HNEW.out, HN.out.2.1, betB, if_neg HN.out.1, HW.out.1, if_pos HW.out.2]
            have e2 := HS.out
            rw [e, if_pos HE.out] at e2
            rw [← e2]
            exact ⟨some ⟨g, 0, none⟩, cg, (by show _ = Ending.returned (.tuple #[.slice (some ⟨g, 0, none⟩) N.length cg, .int .i64 0]); rw [OG.out.2.2.1]; rfl), OG.out.1.far HZ.out, BZ.out⟩
          · rw [decide_eq_false hcn] at CN
            have HE := Lib.hid hcn
            clear hcn
            go_wp2_with (fail)
            go_region
            go_wp2_with (fail)
            go_region
            go_wp2_with (fail)
            refine (O1.out _).mono ?_
            rintro e w' ⟨rfl, rfl⟩
            go_wp2_with (at_builtin; refine t_append_eq rfl _ _ _ rfl _ _ _ _ rfl rfl HG.out ?_)
            refine (CN.out).mono ?_
            rintro e wz ⟨rfl, hbz⟩
            have BZ := Lib.hid (t_cat OG.out.2.1 hbz)
            clear hbz
            go_wp2_with (fail)
            go_ret2
            have e : newP up l r = N := by
              rw [← OG.out.2.2.2, HNEW.out, HN.out.2.1, betB, if_neg HN.out.1, HW.out.1, if_pos HW.out.2]
            have e2 := HS.out
            rw [e, if_neg HE.out] at e2
            rw [← e2]
            exact bet_none BZ.out 5
        · have w2 : ¬ x + 1 + 1 < y := by omega
          by_cases w3 : y = x + 2
          · have hy2 : (y == x + 2) = true := by rw [beq_iff_eq]; exact w3
            have HW := Lib.hid (And.intro hz (And.intro w1 w3))
            clear hz hox hev w3
            obtain ⟨g, cg, wg, hrun, hown, hgr⟩ := appendI_two (x := x + 1) (y := 1) OT.out BT.out.size (by rw [HT.out]; omega)
            rw [HT.out] at hrun hgr
            have HG := Lib.hid hrun
            have hbg : Below w.heap.size w wg := RoomEnd BT.out hgr (fun k e => by have := World.ownsRow.lt (OT.out).1; rw [HT.out] at this; exact (this k e).1)
            obtain ⟨N, hN⟩ : ∃ N, T ++ [x + 1, 1] = N := ⟨_, rfl⟩
            rw [hN] at hown
            have hlen : N.length = K + 2 := by rw [← hN, List.length_append, HT.out]; rfl
            have CN := Lib.hid (right_any (g) N cg wg (by rw [hlen]; omega) hown.2.2 hown.holds)
            rw [hlen] at CN
            have OG := Lib.hid (And.intro hown (And.intro hbg (And.intro hlen hN)))
            clear hrun hown hgr hbg hlen hN
            by_cases hcn : checkP N = 0
            · rw [decide_eq_true hcn] at CN
              have HE := Lib.hid hcn
              clear hcn
              go_wp2_with (fail)
              go_region
              go_wp2_with (fail)
              go_region
              go_wp2_with (fail)
              refine (O1.out _).mono ?_
              rintro e w' ⟨rfl, rfl⟩
              go_wp2_with (at_builtin; refine t_append_eq rfl _ _ _ rfl _ _ _ _ rfl rfl HG.out ?_)
              refine (CN.out).mono ?_
              rintro e wz ⟨rfl, hbz⟩
              have BZ := Lib.hid (t_cat OG.out.2.1 hbz)
              have HZ := Lib.hid hbz
              clear hbz
              go_wp2_with (fail)
              go_ret2
              have e : newP up l r = N := by
                rw [← OG.out.2.2.2, HNEW.out, HN.out.2.1, betB, if_neg HN.out.1, HW.out.1, if_neg (Int.not_lt.2 HW.out.2.1), if_pos HW.out.2.2]
              have e2 := HS.out
              rw [e, if_pos HE.out] at e2
              rw [← e2]
              exact ⟨g, cg, (by show _ = Ending.returned (.tuple #[.slice (g) N.length cg, .int .i64 0]); rw [OG.out.2.2.1]; rfl), OG.out.1.far HZ.out, BZ.out⟩
            · rw [decide_eq_false hcn] at CN
              have HE := Lib.hid hcn
              clear hcn
              go_wp2_with (fail)
              go_region
              go_wp2_with (fail)
              go_region
              go_wp2_with (fail)
              refine (O1.out _).mono ?_
              rintro e w' ⟨rfl, rfl⟩
              go_wp2_with (at_builtin; refine t_append_eq rfl _ _ _ rfl _ _ _ _ rfl rfl HG.out ?_)
              refine (CN.out).mono ?_
              rintro e wz ⟨rfl, hbz⟩
              have BZ := Lib.hid (t_cat OG.out.2.1 hbz)
              clear hbz
              go_wp2_with (fail)
              go_ret2
              have e : newP up l r = N := by
                rw [← OG.out.2.2.2, HNEW.out, HN.out.2.1, betB, if_neg HN.out.1, HW.out.1, if_neg (Int.not_lt.2 HW.out.2.1), if_pos HW.out.2.2]
              have e2 := HS.out
              rw [e, if_neg HE.out] at e2
              rw [← e2]
              exact bet_none BZ.out 5
          · have hy2 : (y == x + 2) = false := by rw [beq_eq_false_iff_ne]; exact w3
            have hoy : oddI y = false := by rw [oddI_iff] at hox; rw [oddI_not]; omega
            have htail := lvl_even HN.out.2.2.2 hoy
            have hk9 : K + 1 < r.length := by
              have := List.length_pos_iff.2 (lvl_ne htail)
              rw [List.length_drop] at this; omega
            have cc : wr.drew.drew.cell? ⟨b2, off2 + (K + 1), none⟩ = some (.int .i64 (r.getD (K + 1) 0)) := hcl2.out (K + 1) hk9
            have hin := HI.out.2.1 _ (getD_mem hk9)
            obtain ⟨u, hu⟩ : ∃ u, r.getD (K + 1) 0 = u := ⟨_, rfl⟩
            rw [hu] at cc hin
            have OU := Lib.hid (fun W => onDn_any u hin W)
            obtain ⟨v, hv⟩ : ∃ v, oddDn u = v := ⟨_, rfl⟩
            rw [hv] at OU
            have gk : (K : Int) + 1 < (r.length : Int) := by omega
            have HW := Lib.hid (And.intro hz (And.intro w1 (And.intro w3 (And.intro hu (And.intro hv hox)))))
            clear hz hox hev htail hk9 hin hu hv hoy w3
            obtain ⟨g, cg, wg, hrun, hown, hgr⟩ := appendI_two (x := y) (y := v) OT.out BT.out.size (by rw [HT.out]; omega)
            rw [HT.out] at hrun hgr
            have HG := Lib.hid hrun
            have hbg : Below w.heap.size w wg := RoomEnd BT.out hgr (fun k e => by have := World.ownsRow.lt (OT.out).1; rw [HT.out] at this; exact (this k e).1)
            obtain ⟨N, hN⟩ : ∃ N, T ++ [y, v] = N := ⟨_, rfl⟩
            rw [hN] at hown
            have hlen : N.length = K + 2 := by rw [← hN, List.length_append, HT.out]; rfl
            have CN := Lib.hid (right_any (g) N cg wg (by rw [hlen]; omega) hown.2.2 hown.holds)
            rw [hlen] at CN
            have OG := Lib.hid (And.intro hown (And.intro hbg (And.intro hlen hN)))
            clear hrun hown hgr hbg hlen hN
            by_cases hcn : checkP N = 0
            · rw [decide_eq_true hcn] at CN
              have HE := Lib.hid hcn
              clear hcn
              go_wp2_with (fail)
              go_region
              go_wp2_with (fail)
              go_region
              go_wp2_with (fail)
              refine (O1.out _).mono ?_
              rintro e w' ⟨rfl, rfl⟩
              go_wp2_with (fail)
              refine (O2.out _).mono ?_
              rintro e w' ⟨rfl, rfl⟩
              go_wp2_with (fail)
              refine (OU.out _).mono ?_
              rintro e w' ⟨rfl, rfl⟩
              go_wp2_with (at_builtin; refine t_append_eq rfl _ _ _ rfl _ _ _ _ rfl rfl HG.out ?_)
              refine (CN.out).mono ?_
              rintro e wz ⟨rfl, hbz⟩
              have BZ := Lib.hid (t_cat OG.out.2.1 hbz)
              have HZ := Lib.hid hbz
              clear hbz
              go_wp2_with (fail)
              go_ret2
              have e : newP up l r = N := by
                obtain ⟨hz, w1, w3, hu, hv, hox⟩ := HW.out
                rw [← OG.out.2.2.2, HNEW.out, HN.out.2.1, betB, if_neg HN.out.1, hz, if_neg (Int.not_lt.2 w1), if_neg w3, hox, headD_drop_i r, hu, hv]; rfl
              have e2 := HS.out
              rw [e, if_pos HE.out] at e2
              rw [← e2]
              exact ⟨g, cg, (by show _ = Ending.returned (.tuple #[.slice (g) N.length cg, .int .i64 0]); rw [OG.out.2.2.1]; rfl), OG.out.1.far HZ.out, BZ.out⟩
            · rw [decide_eq_false hcn] at CN
              have HE := Lib.hid hcn
              clear hcn
              go_wp2_with (fail)
              go_region
              go_wp2_with (fail)
              go_region
              go_wp2_with (fail)
              refine (O1.out _).mono ?_
              rintro e w' ⟨rfl, rfl⟩
              go_wp2_with (fail)
              refine (O2.out _).mono ?_
              rintro e w' ⟨rfl, rfl⟩
              go_wp2_with (fail)
              refine (OU.out _).mono ?_
              rintro e w' ⟨rfl, rfl⟩
              go_wp2_with (at_builtin; refine t_append_eq rfl _ _ _ rfl _ _ _ _ rfl rfl HG.out ?_)
              refine (CN.out).mono ?_
              rintro e wz ⟨rfl, hbz⟩
              have BZ := Lib.hid (t_cat OG.out.2.1 hbz)
              clear hbz
              go_wp2_with (fail)
              go_ret2
              have e : newP up l r = N := by
                obtain ⟨hz, w1, w3, hu, hv, hox⟩ := HW.out
                rw [← OG.out.2.2.2, HNEW.out, HN.out.2.1, betB, if_neg HN.out.1, hz, if_neg (Int.not_lt.2 w1), if_neg w3, hox, headD_drop_i r, hu, hv]; rfl
              have e2 := HS.out
              rw [e, if_neg HE.out] at e2
              rw [← e2]
              exact bet_none BZ.out 5
end Go.Proofs.Ytaiiigknlnhdgaa
