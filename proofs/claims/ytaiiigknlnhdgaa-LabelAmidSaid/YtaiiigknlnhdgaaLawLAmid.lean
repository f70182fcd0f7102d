/- Proved here: the statement LabelAmid, walked: it answers true of every three lists of numbers, in every world. -/
import Derived.Test.YtaiiigknlnhdgaaLabSame
namespace Go.Proofs.Ytaiiigknlnhdgaa
open Go.RowKit

set_option maxRecDepth 100000 in
set_option maxHeartbeats 8000000 in
theorem amid_none (p1 p2 p3 : Option Addr) (up l r : List Int) (c1 c2 c3 : Nat) (w : World) (hu : up.length * 8 ≤ 140737488355328) (hl : l.length * 8 ≤ 140737488355328) (hr : r.length * 8 ≤ 140737488355328)
    (huc : up.length ≤ c1) (hlc : l.length ≤ c2) (hrc : r.length ≤ c3) (h1 : HoldsI w p1 up) (h2 : HoldsI w p2 l) (h3 : HoldsI w p3 r) (hn1 : p1 = none → c1 = 0) (hn2 : p2 = none → c2 = 0) (hn3 : p3 = none → c3 = 0)
    (k : Int) (hk : k = 1 ∨ k = 5) (hb : betP up l r = ([], k)) :
    Calls Try.prog 8 #[.slice p1 up.length c1, .slice p2 l.length c2, .slice p3 r.length c3] w fun e w' => e = .returned (.bool true) ∧ Below w.heap.size w w' := by
  have AW := Lib.hid (awake12_any w)
  have BT := Lib.hid (fun W (h : Below w.heap.size w W) => between_any p1 p2 p3 up l r c1 c2 c3 W hu hl hr huc hlc hrc (h1.below h) (h2.below h) (h3.below h) hn1 hn2 hn3)
  rw [hb] at BT
  clear hu hl hr huc hlc hrc h1 h2 h3 hn1 hn2 hn3 hb
  rcases hk with rfl | rfl
  all_goals
    go_enter Try.func8, Try.ntmps8
    go_wp2_with (fail)
    refine (AW.out).mono ?_
    rintro e w1 ⟨rfl, hb1⟩
    have B1 := Lib.hid hb1
    clear hb1 AW
    go_wp2_with (fail)
    refine (BT.out _ B1.out).mono ?_
    intro e w2 hpost
    obtain ⟨q2, d2, rfl, -, hb2⟩ : ∃ q c, e = .returned (.tuple #[.slice q 0 c, .int .i64 _]) ∧ OwnI w2 _ q c [] ∧ Below _ _ w2 := hpost
    have B2 := Lib.hid (t_cat B1.out hb2)
    clear hb2 B1 BT
    go_wp2_with (fail)
    go_ret
    exact ⟨rfl, B2.out⟩
set_option maxRecDepth 100000 in
set_option maxHeartbeats 16000000 in
theorem amid_some (p1 p2 p3 : Option Addr) (up l r : List Int) (c1 c2 c3 : Nat) (w : World) (hu : up.length * 8 ≤ 140737488355328) (hl : l.length * 8 ≤ 140737488355328) (hr : r.length * 8 ≤ 140737488355328)
    (huc : up.length ≤ c1) (hlc : l.length ≤ c2) (hrc : r.length ≤ c3) (h1 : HoldsI w p1 up) (h2 : HoldsI w p2 l) (h3 : HoldsI w p3 r) (hn1 : p1 = none → c1 = 0) (hn2 : p2 = none → c2 = 0) (hn3 : p3 = none → c3 = 0)
    (hm : mayP up l r = true) (hk : checkP (newP up l r) = 0) :
    Calls Try.prog 8 #[.slice p1 up.length c1, .slice p2 l.length c2, .slice p3 r.length c3] w fun e w' => e = .returned (.bool true) ∧ Below w.heap.size w w' := by
  have AW := Lib.hid (awake12_any w)
  have BT := Lib.hid (fun W (h : Below w.heap.size w W) => between_any p1 p2 p3 up l r c1 c2 c3 W hu hl hr huc hlc hrc (h1.below h) (h2.below h) (h3.below h) hn1 hn2 hn3)
  have hb : betP up l r = (newP up l r, 0) := by unfold betP; rw [if_pos hm, if_pos hk]
  obtain ⟨nf1, nf2, nf3, nf4, nf5, nf6⟩ := new_facts hm
  have hnl := room_len hm
  have hup : up.length ≤ 480 := by
    unfold mayP at hm
    rw [Bool.and_eq_true, Bool.and_eq_true, Bool.and_eq_true, decide_eq_true_iff] at hm
    exact checkP_len hm.1.1.1
  have hlev : levP up ≤ 480 := Nat.le_trans (List.length_filter_le _ _) hup
  rw [hb] at BT
  generalize newP up l r = N at *
  have UPN := Lib.hid (fun W q1 d1 (x : OwnI W w.heap.size q1 d1 N) => up_any q1 N d1 W (by omega) x.2.2 x.holds x.2.1)
  rw [nf2] at UPN
  have SAM := Lib.hid (fun W q1 d1 (h : Below w.heap.size w W) (x : HoldsI W q1 up) (y : up.length ≤ d1) => sameInts_any q1 p1 up up d1 c1 W (by omega) (by omega) y huc x (h1.below h))
  rw [decide_eq_true rfl] at SAM
  have LVN := Lib.hid (fun W q1 d1 (x : OwnI W w.heap.size q1 d1 N) => level_any q1 N d1 W (by omega) x.2.2 x.holds)
  rw [nf3] at LVN
  have LVU := Lib.hid (fun W (h : Below w.heap.size w W) => level_any p1 up c1 W (by omega) huc (h1.below h))
  have CKN := Lib.hid (fun W q1 d1 (x : OwnI W w.heap.size q1 d1 N) => check_any q1 N d1 W (by omega) x.2.2 x.holds)
  rw [hk] at CKN
  have ABN := Lib.hid (fun W q1 d1 (h : Below w.heap.size w W) (x : OwnI W w.heap.size q1 d1 N) => above_any p1 q1 up N c1 d1 W (by omega) (by omega) huc x.2.2 (h1.below h) x.holds)
  rw [nf4] at ABN
  have CLN := Lib.hid (fun W q1 d1 (h : Below w.heap.size w W) (x : OwnI W w.heap.size q1 d1 N) => compare_any p2 q1 l N c2 d1 W (by omega) (by omega) hlc x.2.2 (h2.below h) x.holds)
  have CNR := Lib.hid (fun W q1 d1 (h : Below w.heap.size w W) (x : OwnI W w.heap.size q1 d1 N) => compare_any q1 p3 N r d1 c3 W (by omega) (by omega) x.2.2 hrc x.holds (h3.below h))
  obtain ⟨lv, hlv⟩ : ∃ lv, levP up = lv := ⟨_, rfl⟩
  rw [hlv] at LVN LVU hlev
  have glv : (lv : Int) ≤ 480 := by omega
  have gl : (l.length : Int) ≤ 17592186044416 := by omega
  have gr : (r.length : Int) ≤ 17592186044416 := by omega
  have tl : l.length = 0 ∨ 0 < l.length ∧ cmpN l N = -1 := by
    rcases Nat.eq_zero_or_pos l.length with h | h
    · exact .inl h
    · exact .inr ⟨h, nf5 h⟩
  have tr : r.length = 0 ∨ 0 < r.length ∧ cmpN N r = -1 := by
    rcases Nat.eq_zero_or_pos r.length with h | h
    · exact .inl h
    · exact .inr ⟨h, nf6 h⟩
  clear hu hl hr huc hlc hrc h1 h2 h3 hn1 hn2 hn3 hb hm hk nf1 nf2 nf3 nf4 nf5 nf6 hnl hup hlev hlv
  have hne : ∀ (k : Nat), 0 < k → ((k : Int) == 0) = false := fun k h => by rw [beq_eq_false_iff_ne]; omega
  generalize cmpN l N = x at *
  generalize cmpN N r = y at *
  generalize l.length = ln at *
  generalize r.length = rn at *
  rcases tl with rfl | ⟨tl, rfl⟩ <;> rcases tr with rfl | ⟨tr, rfl⟩
  all_goals
    try have zl := hne _ tl
    try have zr := hne _ tr
    try clear tl
    try clear tr
    clear hne
    go_enter Try.func8, Try.ntmps8
    go_wp2_with (fail)
    refine (AW.out).mono ?_
    rintro e w1 ⟨rfl, hb1⟩
    have B1 := Lib.hid hb1
    clear hb1 AW
    go_wp2_with (fail)
    refine (BT.out _ B1.out).mono ?_
    intro e w2 hpost
    obtain ⟨q2, d2, rfl, ho2, hb2⟩ : ∃ q c, e = .returned (.tuple #[.slice q N.length c, .int .i64 0]) ∧ OwnI w2 _ q c N ∧ Below _ _ w2 := hpost
    have B2 := Lib.hid (t_cat B1.out hb2)
    have O2 := Lib.hid (ho2.base (B' := w.heap.size) B1.out.size)
    clear hb2 ho2 B1 BT
    go_wp2_with (fail)
    refine (UPN.out _ _ _ O2.out).mono ?_
    rintro e w3 ⟨q3, d3, rfl, ho3, hb3⟩
    have HO := Lib.hid (O2.out.far hb3)
    have HB := Lib.hid (t_cat B2.out hb3)
    have SA := Lib.hid (SAM.out _ _ _ HB.out ho3.holds ho3.2.2)
    clear hb3 ho3 O2 B2 UPN SAM
    go_wp2_with (fail)
    refine (SA.out).mono ?_
    rintro e w4 ⟨rfl, hb4⟩
    have HO' := Lib.hid (HO.out.far hb4)
    have HB' := Lib.hid (t_cat HB.out hb4)
    clear hb4 SA HO HB
    have HO := HO'
    have HB := HB'
    clear HO' HB'
    go_wp2_with (fail)
    refine (LVN.out _ _ _ HO.out).mono ?_
    rintro e w' ⟨rfl, rfl⟩
    go_wp2_with (fail)
    refine (LVU.out _ HB.out).mono ?_
    rintro e w' ⟨rfl, rfl⟩
    go_wp2_with (fail)
    refine (CKN.out _ _ _ HO.out).mono ?_
    rintro e w' ⟨rfl, rfl⟩
    go_wp2_with (fail)
    refine (ABN.out _ _ _ HB.out HO.out).mono ?_
    rintro e w5 ⟨rfl, hb5⟩
    have HO' := Lib.hid (HO.out.far hb5)
    have HB' := Lib.hid (t_cat HB.out hb5)
    clear hb5 HO HB LVN LVU CKN ABN
    repeat
      go_wp2_with (fail)
      first
        | (with_reducible (refine (CLN.out _ _ _ HB'.out HO'.out).mono ?_)
           rintro e w' ⟨rfl, rfl⟩)
        | (with_reducible (refine (CNR.out _ _ _ HB'.out HO'.out).mono ?_)
           rintro e w' ⟨rfl, rfl⟩)
    go_wp2_with (fail)
    go_ret
    exact ⟨rfl, HB'.out⟩
theorem amid_walk (p1 p2 p3 : Option Addr) (up l r : List Int) (c1 c2 c3 : Nat) (w : World) (hu : up.length * 8 ≤ 140737488355328) (hl : l.length * 8 ≤ 140737488355328) (hr : r.length * 8 ≤ 140737488355328)
    (huc : up.length ≤ c1) (hlc : l.length ≤ c2) (hrc : r.length ≤ c3) (h1 : HoldsI w p1 up) (h2 : HoldsI w p2 l) (h3 : HoldsI w p3 r) (hn1 : p1 = none → c1 = 0) (hn2 : p2 = none → c2 = 0) (hn3 : p3 = none → c3 = 0) :
    Calls Try.prog 8 #[.slice p1 up.length c1, .slice p2 l.length c2, .slice p3 r.length c3] w fun e w' => e = .returned (.bool true) ∧ Below w.heap.size w w' := by
  cases hm : mayP up l r
  · exact amid_none p1 p2 p3 up l r c1 c2 c3 w hu hl hr huc hlc hrc h1 h2 h3 hn1 hn2 hn3 1 (.inl rfl) (by unfold betP; rw [hm]; rfl)
  · by_cases hk : checkP (newP up l r) = 0
    · exact amid_some p1 p2 p3 up l r c1 c2 c3 w hu hl hr huc hlc hrc h1 h2 h3 hn1 hn2 hn3 hm hk
    · exact amid_none p1 p2 p3 up l r c1 c2 c3 w hu hl hr huc hlc hrc h1 h2 h3 hn1 hn2 hn3 5 (.inr rfl) (by unfold betP; rw [hm, if_pos rfl, if_neg hk])
end Go.Proofs.Ytaiiigknlnhdgaa
