/- Proved here: what the document's kid and on answer. -/
import Derived.Test.YtaiiigknlnhdgaaLabRBytes
import Derived.Test.YtaiiigknlnhdgaaLabBetween
namespace Go.Proofs.Ytaiiigknlnhdgaa
open Go.RowKit

theorem up_ev {x : Int} (h : oddI x = false) : oddUp x = x + 1 := by rw [oddI_not] at h; unfold oddUp; omega
theorem up_od {x : Int} (h : oddI x = true) : oddUp x = x + 2 := by rw [oddI_iff] at h; unfold oddUp; omega
theorem dn_ev {x : Int} (h : oddI x = false) : oddDn x = x - 1 := by rw [oddI_not] at h; unfold oddDn; omega
theorem dn_od {x : Int} (h : oddI x = true) : oddDn x = x - 2 := by rw [oddI_iff] at h; unfold oddDn; omega
theorem onUp_any (c : Int) (h : InB c) (w : World) : Calls Try.prog 51 #[.int .i64 c, .int .i64 1] w fun e w' => e = .returned (.int .i64 (oddUp c)) ∧ w = w' := by
  obtain ⟨h1, h2⟩ : -1073741824 ≤ c ∧ c ≤ 1073741824 := h
  have O := Lib.hid (fun W => rodd_any c W)
  cases ho : oddI c
  · have e := up_ev ho
    rw [ho] at O
    rw [e]
    clear e ho
    go_enter Try.func51, Try.ntmps51
    go_wp2_with (fail)
    refine (O.out _).mono ?_
    rintro e w' ⟨rfl, rfl⟩
    go_wp2_with (fail)
    go_ret
    exact ⟨rfl, rfl⟩
  · have e := up_od ho
    rw [ho] at O
    rw [e]
    clear e ho
    go_enter Try.func51, Try.ntmps51
    go_wp2_with (fail)
    refine (O.out _).mono ?_
    rintro e w' ⟨rfl, rfl⟩
    go_wp2_with (fail)
    go_ret
    exact ⟨rfl, rfl⟩
theorem onDn_any (c : Int) (h : InB c) (w : World) : Calls Try.prog 51 #[.int .i64 c, .int .i64 (-1)] w fun e w' => e = .returned (.int .i64 (oddDn c)) ∧ w = w' := by
  obtain ⟨h1, h2⟩ : -1073741824 ≤ c ∧ c ≤ 1073741824 := h
  have O := Lib.hid (fun W => rodd_any c W)
  cases ho : oddI c
  · have e := dn_ev ho
    rw [ho] at O
    rw [e]
    clear e ho
    go_enter Try.func51, Try.ntmps51
    go_wp2_with (fail)
    refine (O.out _).mono ?_
    rintro e w' ⟨rfl, rfl⟩
    go_wp2_with (fail)
    go_ret
    exact ⟨rfl, rfl⟩
  · have e := dn_od ho
    rw [ho] at O
    rw [e]
    clear e ho
    go_enter Try.func51, Try.ntmps51
    go_wp2_with (fail)
    refine (O.out _).mono ?_
    rintro e w' ⟨rfl, rfl⟩
    go_wp2_with (fail)
    go_ret
    exact ⟨rfl, rfl⟩
theorem cmp_zero (a b : List Int) : (cmpN a b == 0) = decide (a = b) := by
  by_cases h : a = b
  · rw [h, cmpN_refl, decide_eq_true rfl]; rfl
  · rw [decide_eq_false h, beq_eq_false_iff_ne]
    exact fun e => h (cmpN_same a b e)
/-- May these numbers, of which there are some, be a kid's? -/
def kidP (up l : List Int) : Bool := decide (checkP l = 0) && decide (upP l = up)
theorem kid_any (p q : Option Addr) (up l : List Int) (c d : Nat) (w : World) (hu : up.length * 8 ≤ 140737488355328) (hl : l.length * 8 ≤ 140737488355328) (huc : up.length ≤ c) (hld : l.length ≤ d)
    (h1 : HoldsI w p up) (h2 : HoldsI w q l) (hn : q = none → d = 0) (h0 : 0 < l.length) :
    Calls Try.prog 50 #[.slice p up.length c, .slice q l.length d] w fun e w' => e = .returned (.bool (kidP up l)) ∧ Below w.heap.size w w' := by
  have RG := Lib.hid (right_any q l d w (by omega) hld h2)
  have q0 : (0 : Int) < (l.length : Int) := by omega
  by_cases hc : checkP l = 0
  · rw [decide_eq_true hc] at RG
    have hk : kidP up l = decide (upP l = up) := by unfold kidP; rw [decide_eq_true hc, Bool.true_and]
    rw [hk]
    have UP := Lib.hid (fun W (hb : Below w.heap.size w W) => rup_any q l d W hl (h2.below hb) hn)
    have hul : (upP l).length ≤ l.length := by unfold upP; rw [List.length_take]; omega
    obtain ⟨u, hue⟩ : ∃ u, upP l = u := ⟨_, rfl⟩
    rw [hue] at UP hul ⊢
    have CM := Lib.hid (fun W q3 c3 (hb : Below w.heap.size w W) (hc3 : u.length ≤ c3) (h3 : HoldsI W q3 u) => rcompare_any q3 p u up c3 c W (by omega) (by omega) hc3 huc h3 (h1.below hb))
    have CZ := Lib.hid (cmp_zero u up)
    obtain ⟨z, hz⟩ : ∃ z, cmpN u up = z := ⟨_, rfl⟩
    rw [hz] at CM CZ
    clear hu hl huc hld h1 h2 hn hc hk hul hue hz
    go_enter Try.func50, Try.ntmps50
    go_wp2_with (fail)
    refine (RG.out).mono ?_
    rintro e w1 ⟨rfl, hb1⟩
    have B1 := Lib.hid hb1
    clear hb1 RG
    go_wp2_with (fail)
    refine (UP.out _ B1.out).mono ?_
    rintro e w2 ⟨q3, c3, rfl, ho, hb2⟩
    have B2 := Lib.hid (t_cat B1.out hb2)
    have CC := Lib.hid (CM.out w2 q3 c3 B2.out ho.2.2 ho.holds)
    clear hb2 UP B1 ho CM
    go_wp2_with (fail)
    refine (CC.out).mono ?_
    rintro e w3 ⟨rfl, hb3⟩
    have B3 := Lib.hid (t_cat B2.out hb3)
    clear hb3 CC B2
    go_wp2_with (fail)
    go_ret
    exact ⟨ret_b CZ.out, B3.out⟩
  · rw [decide_eq_false hc] at RG
    have hk : kidP up l = false := by unfold kidP; rw [decide_eq_false hc, Bool.false_and]
    rw [hk]
    clear hu hl huc hld h1 h2 hn hc hk
    go_enter Try.func50, Try.ntmps50
    go_wp2_with (fail)
    refine (RG.out).mono ?_
    rintro e w1 ⟨rfl, hb1⟩
    have B1 := Lib.hid hb1
    clear hb1 RG
    go_wp2_with (fail)
    go_ret
    exact ⟨rfl, B1.out⟩
end Go.Proofs.Ytaiiigknlnhdgaa
