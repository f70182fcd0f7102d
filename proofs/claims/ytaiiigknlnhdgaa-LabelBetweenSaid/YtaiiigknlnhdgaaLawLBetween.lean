/- Proved here: the statement LabelBetween, walked: it answers true of every three lists of numbers, in every world. -/
import Derived.Test.YtaiiigknlnhdgaaLabRBetween
import Derived.Test.YtaiiigknlnhdgaaLawLStands
namespace Go.Proofs.Ytaiiigknlnhdgaa
open Go.RowKit

theorem bet_short (up l r : List Int) : (betP up l r).1.length ≤ 1000 ∧ 0 ≤ (betP up l r).2 ∧ (betP up l r).2 ≤ 5 := by
  unfold betP
  split
  · rename_i h
    split
    · exact ⟨room_len h, Int.le_refl _, (by show (0 : Int) ≤ 5; decide)⟩
    · exact ⟨by simp, by decide, by decide⟩
  · exact ⟨by simp, by decide, by decide⟩
set_option maxRecDepth 100000 in
set_option maxHeartbeats 16000000 in
theorem between_walk (p1 p2 p3 : Option Addr) (c1 c2 c3 : Nat) (up l r : List Int) (w : World) (hu : up.length * 8 ≤ 140737488351232) (hl : l.length * 8 ≤ 140737488351232) (hr : r.length * 8 ≤ 140737488351232)
    (huc : up.length ≤ c1) (hlc : l.length ≤ c2) (hrc : r.length ≤ c3) (h1 : HoldsI w p1 up) (h2 : HoldsI w p2 l) (h3 : HoldsI w p3 r) (hn1 : p1 = none → c1 = 0) (hn2 : p2 = none → c2 = 0) (hn3 : p3 = none → c3 = 0) :
    Calls Try.prog 7 #[.slice p1 up.length c1, .slice p2 l.length c2, .slice p3 r.length c3] w fun e w' => e = .returned (.bool true) ∧ Below w.heap.size w w' := by
  have AW := Lib.hid (awake12_any w)
  have LIT := Lib.hid (fun W (h : Below w.heap.size w W) => appendI_lit (c := c1) (h1.below h) hn1 (by omega))
  have BET := Lib.hid (fun W q d (h : Below w.heap.size w W) (hd : up.length ≤ d) (x : HoldsI W q up) (hq : q = none → d = 0) => between_any q p2 p3 up l r d c2 c3 W (by omega) (by omega) (by omega) hd hlc hrc x (h2.below h) (h3.below h) hq hn2 hn3)
  have RBT := Lib.hid (fun W (h : Below w.heap.size w W) => rbetween_any p1 p2 p3 up l r c1 c2 c3 W (by omega) (by omega) (by omega) huc hlc hrc (h1.below h) (h2.below h) (h3.below h) hn1 hn2 hn3)
  have SUP := Lib.hid (fun W q d (h : Below w.heap.size w W) (hd : up.length ≤ d) (x : HoldsI W q up) => sameInts_any q p1 up up d c1 W (by omega) (by omega) hd huc x (h1.below h))
  rw [decide_eq_true rfl] at SUP
  obtain ⟨s1, s2, s3⟩ := bet_short up l r
  obtain ⟨R, hR⟩ : ∃ R, betP up l r = R := ⟨_, rfl⟩
  rw [hR] at BET RBT s1 s2 s3
  obtain ⟨N, z⟩ := R
  simp only at s1 s2 s3
  have SNM := Lib.hid (fun W q d q2 d2 (hd : N.length ≤ d) (hd2 : N.length ≤ d2) (x : HoldsI W q N) (y : HoldsI W q2 N) => sameInts_any q q2 N N d d2 W (by omega) (by omega) hd hd2 x y)
  rw [decide_eq_true rfl] at SNM
  have hsz : (up.length + 1) * 8 ≤ 140737488355328 := by omega
  have HSZ := Lib.hid hsz
  have gu : (up.length : Int) ≤ 17592186044416 := by omega
  have gn : (N.length : Int) ≤ 1000 := by omega
  have hbx : (z != z) = false := by simp
  have hlu : (up ++ [77]).length = up.length + 1 := by rw [List.length_append]; rfl
  have HLU := Lib.hid hlu
  have htk : (up ++ [77]).take up.length = up := List.take_left
  have HTK := Lib.hid htk
  have hgd : (up ++ [77]).getD up.length 0 = 77 := by rw [List.getD_eq_getElem?_getD, List.getElem?_append_right (Nat.le_refl _), Nat.sub_self]; rfl
  have HGD := Lib.hid hgd
  clear hu hl hr huc hlc hrc h1 h2 h3 hn1 hn2 hn3 hR hsz s1 hlu htk hgd
  go_enter Try.func7, Try.ntmps7
  go_wp2_with (fail)
  refine (AW.out).mono ?_
  rintro e w1 ⟨rfl, hb1⟩
  have B1 := Lib.hid hb1
  clear hb1 AW
  obtain ⟨q0, c0, w2, hrun, hown, hgr⟩ := LIT.out w1 B1.out
  have HA := Lib.hid hrun
  have B2 := Lib.hid (t_cat B1.out hgr)
  have O0 := Lib.hid (hown.base (B' := w.heap.size) B1.out.size)
  clear hrun hown hgr LIT B1
  obtain ⟨g, cg, w3, hrun, hown, hgr⟩ := appendI_one (x := 77) O0.out B2.out.size HSZ.out
  have HG := Lib.hid hrun
  have B3 := Lib.hid (RoomEnd B2.out hgr (fun k e => (World.ownsRow.lt O0.out.1 k e).1))
  have hcap : up.length + 1 ≤ cg := by have := hown.2.2; rw [HLU.out] at this; exact this
  have gc : (up.length : Int) + 1 ≤ (cg : Int) := by omega
  have gc2 : (up.length : Int) ≤ (cg : Int) := by omega
  have hp := hown.holds.take up.length
  rw [HTK.out] at hp
  obtain ⟨b, off, e, hcell⟩ := hown.holds (by rw [HLU.out]; omega)
  injection e with e
  injection e with e1 e2 _
  subst e1 e2
  have cc := hcell up.length (by rw [HLU.out]; omega)
  rw [HGD.out, Nat.zero_add] at cc
  have CC := Lib.hid cc
  have PH := Lib.hid hp
  have BX := Lib.hid (BET.out w3 (some ⟨g, 0, none⟩) cg B3.out (by omega) hp (fun e => by cases e))
  clear hrun hown hgr hcell cc hp hcap B2 O0 BET
  go_wp2_with (at_builtin; first | refine t_append_eq rfl _ _ _ rfl _ _ _ _ rfl rfl HA.out ?_ | refine t_append_eq rfl _ _ _ rfl _ _ _ _ rfl rfl HG.out ?_)
  refine (BX.out).mono ?_
  rintro e w4 ⟨q4, c4, rfl, ho4, hb4⟩
  have B4 := Lib.hid (And.intro (t_cat B3.out hb4) hb4)
  have O4 := Lib.hid ho4
  clear hb4 ho4 BX
  go_wp2_with (fail)
  refine (RBT.out _ B4.out.1).mono ?_
  rintro e w5 ⟨q5, c5, rfl, ho5, hb5⟩
  have B5 := Lib.hid (And.intro (t_cat B4.out.1 hb5) (t_cat B4.out.2 hb5))
  have O5 := Lib.hid (O4.out.far hb5)
  have SA := Lib.hid (SNM.out _ _ _ _ _ O5.out.2.2 ho5.2.2 O5.out.holds ho5.holds)
  clear hb5 ho5 RBT B4 O4 SNM
  go_wp2_with (fail)
  refine (SA.out).mono ?_
  rintro e w6 ⟨rfl, hb6⟩
  have B6 := Lib.hid (And.intro (t_cat B5.out.1 hb6) (t_cat B5.out.2 hb6))
  have O6 := Lib.hid (O5.out.far hb6)
  have c6 := t_cell B6.out.2 CC.out
  clear hb6 SA B5 O5
  obtain ⟨n, hn⟩ : ∃ n, N.length = n := ⟨_, rfl⟩
  have HN := Lib.hid hn
  have hn' : List.length N = n := hn
  clear hn
  have gn2 : (n : Int) ≤ 1000 := by omega
  go_wp2_with (fail)
  clear hn'
  go_loopw [60] (fun v wr => WipeRel w3 q4 c4 n v wr) (fun v _ => n - (intOf v).toNat)
  case atStart => exact ⟨0, N, rfl, Nat.zero_le _, HN.out, Lib.hid ⟨O6.out, B6.out.2⟩⟩
  case round =>
    obtain ⟨k, L, rfl, hk, hL, HK⟩ := hrel
    by_cases hlt : k < n
    · obtain ⟨g9, rfl, hg1, hg2, x1, x2⟩ := HK.out.1.at_ (j := k) (by omega)
      have HGG := Lib.hid (And.intro hg1 hL)
      have kn : (k : Int) < (n : Int) := by omega
      have HLT := Lib.hid hlt
      clear hg1 hg2 hL hlt hk
      go_wp2_with (fail)
      go_round
      case rel => exact ⟨k + 1, L.set k 6, by go_num, by have := HLT.out; omega, by rw [List.length_set]; exact HGG.out.2, Lib.hid ⟨HK.out.1.store k 6, HK.out.2.setCell HGG.out.1 _⟩⟩
      case measure => have := HLT.out; simp [intOf]; omega
    · obtain rfl : k = n := by omega
      have BF := Lib.hid (B3.out.trans (HK.out.2.mono B3.out.size))
      have SX := Lib.hid (SUP.out wr (some ⟨g, 0, none⟩) cg BF.out (by omega) (PH.out.below HK.out.2))
      go_wp2_with (fail)
      refine (SX.out).mono ?_
      rintro e w' ⟨rfl, hb⟩
      have BG := Lib.hid (t_cat BF.out hb)
      clear hb
      go_wp2_with (fail)
      go_ret
      exact ⟨rfl, BG.out⟩
end Go.Proofs.Ytaiiigknlnhdgaa
