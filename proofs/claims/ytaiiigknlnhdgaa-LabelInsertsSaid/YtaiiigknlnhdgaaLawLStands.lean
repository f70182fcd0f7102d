/- Proved here: the statement LabelStands, walked: it answers true of every two lists of numbers, in every world. -/
import Derived.Test.YtaiiigknlnhdgaaLabRef
namespace Go.Proofs.Ytaiiigknlnhdgaa
open Go.RowKit

theorem OwnI.at_ {w : World} {B : Nat} {q : Option Addr} {c : Nat} {l : List Int} (h : OwnI w B q c l) {j : Nat} (hj : j < l.length) : ∃ g, q = some ⟨g, 0, none⟩ ∧ B ≤ g ∧ g < w.heap.size ∧ w.cell? ⟨g, j, none⟩ = some (.int .i64 (l.getD j 0)) ∧ w.frozen? ⟨g, j, none⟩ = false := by
  have hown := h.1
  rcases hown.2 with ⟨e, h1⟩ | ⟨g, cap, cur, e, hb, hh, hc, _, _⟩
  · omega
  · injection e with e1 e2 e3
    subst e1
    refine ⟨g, rfl, hb, (hown.lt g rfl).2, ?_, World.ownsRow.frozenAt hown j⟩
    rw [World.ownsRow.cellAt hown j (by omega), intV_get l j hj]
theorem intV_set (l : List Int) (k : Nat) (x : Int) : (intV l).set k (.int .i64 x) = intV (l.set k x) := by
  simp [intV, List.map_set]
theorem OwnI.store {w : World} {B g c : Nat} {l : List Int} (h : OwnI w B (some ⟨g, 0, none⟩) c l) (j : Nat) (x : Int) : OwnI (w.setCell ⟨g, j, none⟩ (.int .i64 x)) B (some ⟨g, 0, none⟩) c (l.set j x) := by
  have o1 := (World.ownsRow.stored h.1 j (.int .i64 x)).1
  rw [intV_set] at o1
  exact ⟨by rw [List.length_set]; exact o1, fun e => (by cases e), by rw [List.length_set]; exact h.2.2⟩
def WipeRel (w2 : World) (q : Option Addr) (c n : Nat) (v : Value) (wr : World) : Prop :=
  ∃ (k : Nat) (L : List Int), v = .int .i64 (k : Int) ∧ k ≤ n ∧ L.length = n ∧ Hid (OwnI wr w2.heap.size q c L ∧ Below w2.heap.size w2 wr)
set_option maxRecDepth 100000 in
set_option maxHeartbeats 16000000 in
theorem stands_walk (p q : Option Addr) (c d : Nat) (a b : List Int) (w : World) (la : a.length * 8 ≤ 140737488351232) (lb : b.length * 8 ≤ 140737488351232) (ca : a.length ≤ c) (cb : b.length ≤ d)
    (ha : HoldsI w p a) (hb : HoldsI w q b) (hn : p = none → c = 0) :
    Calls Try.prog 6 #[.slice p a.length c, .slice q b.length d] w fun e w' => e = .returned (.bool true) ∧ Below w.heap.size w w' := by
  have AW := Lib.hid (awake12_any w)
  have HA := Lib.hid (fun W (h : Below w.heap.size w W) => ha.below h)
  have LIT := Lib.hid (fun W (h : Below w.heap.size w W) => appendI_lit (c := c) (ha.below h) hn (by omega))
  have UPA := Lib.hid (fun W (h : Below w.heap.size w W) => up_any p a c W (by omega) ca (ha.below h) hn)
  have RUP := Lib.hid (fun W (h : Below w.heap.size w W) => rup_any p a c W (by omega) (ha.below h) hn)
  have CAB := Lib.hid (fun W (h : Below w.heap.size w W) => compare_any p q a b c d W (by omega) (by omega) ca cb (ha.below h) (hb.below h))
  have RCM := Lib.hid (fun W (h : Below w.heap.size w W) => rcompare_any p q a b c d W (by omega) (by omega) ca cb (ha.below h) (hb.below h))
  have LVA := Lib.hid (fun W (h : Below w.heap.size w W) => level_any p a c W (by omega) ca (ha.below h))
  have RLV := Lib.hid (fun W (h : Below w.heap.size w W) => rlevel_any p a c W (by omega) ca (ha.below h))
  have AAB := Lib.hid (fun W (h : Below w.heap.size w W) => above_any p q a b c d W (by omega) (by omega) ca cb (ha.below h) (hb.below h))
  have RAB := Lib.hid (fun W (h : Below w.heap.size w W) => rabove_any p q a b c d W (by omega) (by omega) ca cb (ha.below h) (hb.below h))
  have hul : (upP a).length ≤ a.length := by unfold upP; rw [List.length_take]; omega
  have hul2 : (upP a).length + 1 ≤ a.length ∨ a.length = 0 := by
    unfold upP; rw [List.length_take]
    have := upN_le a (a.length - 1)
    omega
  have SAU := Lib.hid (fun W q1 d1 q2 d2 (x : HoldsI W q1 (upP a)) (y : (upP a).length ≤ d1) (x2 : HoldsI W q2 (upP a)) (y2 : (upP a).length ≤ d2) => sameInts_any q1 q2 (upP a) (upP a) d1 d2 W (by omega) (by omega) y y2 x x2)
  have SAW := Lib.hid (fun W q1 d1 (x : HoldsI W p a) (x2 : HoldsI W q1 a) (y2 : a.length ≤ d1) => sameInts_any p q1 a a c d1 W (by omega) (by omega) ca y2 x x2)
  rw [decide_eq_true rfl] at SAU SAW
  obtain ⟨U, hU⟩ : ∃ U, upP a = U := ⟨_, rfl⟩
  rw [hU] at UPA RUP SAU hul hul2
  obtain ⟨k1, hk1⟩ : ∃ k1, cmpN a b = k1 := ⟨_, rfl⟩
  rw [hk1] at CAB RCM
  obtain ⟨t1, ht1⟩ : ∃ t1, aboveP a b = t1 := ⟨_, rfl⟩
  rw [ht1] at AAB RAB
  obtain ⟨v1, hv1⟩ : ∃ v1, levP a = v1 := ⟨_, rfl⟩
  rw [hv1] at LVA RLV
  have hsz : (U.length + 2) * 8 ≤ 140737488355328 := by omega
  have HSZ := Lib.hid hsz
  have gu : (U.length : Int) ≤ 17592186044416 := by omega
  clear la lb ca cb ha hb hn hU hk1 ht1 hv1 hul hul2 hsz
  go_enter Try.func6, Try.ntmps6
  go_wp2_with (fail)
  refine (AW.out).mono ?_
  rintro e w1 ⟨rfl, hb1⟩
  have B1 := Lib.hid hb1
  clear hb1 AW
  obtain ⟨q0, c0, w2, hrun, hown, hgr⟩ := LIT.out w1 B1.out
  have HR := Lib.hid hrun
  have B2 := Lib.hid (t_cat B1.out hgr)
  have O0 := Lib.hid hown
  clear hrun hown hgr LIT B1
  go_wp2_with (at_builtin; refine t_append_eq rfl _ _ _ rfl _ _ _ _ rfl rfl HR.out ?_)
  refine (UPA.out _ B2.out).mono ?_
  rintro e w3 ⟨q3, d3, rfl, ho3, hb3⟩
  have B3 := Lib.hid (And.intro (t_cat B2.out hb3) hb3)
  have O3 := Lib.hid ho3
  clear ho3 hb3 UPA HR
  go_wp2_with (fail)
  refine (CAB.out _ B3.out.1).mono ?_
  rintro e w' ⟨rfl, rfl⟩
  go_wp2_with (fail)
  refine (RCM.out _ B3.out.1).mono ?_
  rintro e w4 ⟨rfl, hb4⟩
  have B4 := Lib.hid (And.intro (t_cat B3.out.1 hb4) (t_cat B3.out.2 hb4))
  have O4 := Lib.hid (O3.out.far hb4)
  clear hb4 CAB RCM B3 O3
  go_wp2_with (fail)
  refine (LVA.out _ B4.out.1).mono ?_
  rintro e w' ⟨rfl, rfl⟩
  go_wp2_with (fail)
  refine (RLV.out _ B4.out.1).mono ?_
  rintro e w' ⟨rfl, rfl⟩
  go_wp2_with (fail)
  refine (RUP.out _ B4.out.1).mono ?_
  rintro e w5 ⟨q5, d5, rfl, ho5, hb5⟩
  have B5 := Lib.hid (And.intro (t_cat B4.out.1 hb5) (t_cat B4.out.2 hb5))
  have O5 := Lib.hid (O4.out.far hb5)
  have SA := Lib.hid (SAU.out _ _ _ _ _ O5.out.holds O5.out.2.2 ho5.holds ho5.2.2)
  clear ho5 hb5 LVA RLV RUP SAU B4 O4
  go_wp2_with (fail)
  refine (SA.out).mono ?_
  rintro e w6 ⟨rfl, hb6⟩
  have B6 := Lib.hid (And.intro (t_cat B5.out.1 hb6) (t_cat B5.out.2 hb6))
  have O6 := Lib.hid (O5.out.far hb6)
  clear hb6 SA B5 O5
  go_wp2_with (fail)
  refine (AAB.out _ B6.out.1).mono ?_
  rintro e w7 ⟨rfl, hb7⟩
  have B7 := Lib.hid (And.intro (t_cat B6.out.1 hb7) (t_cat B6.out.2 hb7))
  have O7 := Lib.hid (O6.out.far hb7)
  clear hb7 AAB B6 O6
  go_wp2_with (fail)
  refine (RAB.out _ B7.out.1).mono ?_
  rintro e w8 ⟨rfl, hb8⟩
  have B8 := Lib.hid (And.intro (t_cat B7.out.1 hb8) (t_cat B7.out.2 hb8))
  have O8 := Lib.hid (O7.out.far hb8)
  clear hb8 RAB B7 O7
  obtain ⟨q9, c9, w9, hrun, hown, hgr⟩ := appendI_two (x := 9) (y := 9) O8.out B8.out.2.size HSZ.out
  have HR := Lib.hid hrun
  have O9 := Lib.hid hown
  have B9 := Lib.hid (B8.out.2.grown hgr B8.out.2.size (fun k e => (World.ownsRow.lt O8.out.1 k e).1))
  obtain ⟨n, hn⟩ : ∃ n, U.length + 2 = n := ⟨_, rfl⟩
  rw [hn] at HR
  have hL9 : (U ++ [9, 9]).length = n := by rw [List.length_append]; exact hn
  have HL9 := Lib.hid hL9
  have gn : (n : Int) ≤ 17592186044418 := by omega
  clear hrun hown hgr hn hL9 gu
  have hbx : (t1 != t1) = false := by simp
  go_wp2_with (at_builtin; refine t_append_eq rfl _ _ _ rfl _ _ _ _ rfl rfl HR.out ?_)
  go_loopw [50] (fun v wr => WipeRel w2 q9 c9 n v wr) (fun v _ => n - (intOf v).toNat)
  case atStart => exact ⟨0, _, rfl, Nat.zero_le _, HL9.out, Lib.hid ⟨O9.out, B9.out⟩⟩
  case round =>
    obtain ⟨k, L, rfl, hk, hL, HK⟩ := hrel
    by_cases hlt : k < n
    · obtain ⟨g, rfl, hg1, hg2, x1, x2⟩ := HK.out.1.at_ (j := k) (by omega)
      have HG := Lib.hid (And.intro hg1 hL)
      have kn : (k : Int) < (n : Int) := by omega
      have HLT := Lib.hid hlt
      clear hg1 hg2 hL hlt hk
      go_wp2_with (fail)
      go_round
      case rel => exact ⟨k + 1, L.set k 8, by go_num, by have := HLT.out; omega, by rw [List.length_set]; exact HG.out.2, Lib.hid ⟨HK.out.1.store k 8, HK.out.2.setCell HG.out.1 _⟩⟩
      case measure => have := HLT.out; simp [intOf]; omega
    · obtain rfl : k = n := by omega
      have BF := Lib.hid (B2.out.trans (HK.out.2.mono B2.out.size))
      have SX := Lib.hid (SAW.out wr q0 c0 (HA.out _ BF.out) (O0.out.holds.below HK.out.2) O0.out.2.2)
      go_wp2_with (fail)
      refine (SX.out).mono ?_
      rintro e w' ⟨rfl, hb⟩
      have BG := Lib.hid (t_cat BF.out hb)
      clear hb
      go_wp2_with (fail)
      go_ret
      exact ⟨rfl, BG.out⟩
end Go.Proofs.Ytaiiigknlnhdgaa
