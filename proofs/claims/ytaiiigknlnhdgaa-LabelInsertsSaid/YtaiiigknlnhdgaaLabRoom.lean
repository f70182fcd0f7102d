/- Proved here: what label.mayStandBeside, inOrder, behind answer. -/
import Derived.Test.YtaiiigknlnhdgaaLabBetPlain
namespace Go.Proofs.Ytaiiigknlnhdgaa
open Go.RowKit

set_option maxRecDepth 100000 in
set_option maxHeartbeats 2000000 in
theorem beside_any (p q : Option Addr) (up l : List Int) (c d : Nat) (w : World) (hul : up.length ≤ 1048576) (hl : l.length * 8 ≤ 140737488355328) (huc : up.length ≤ c) (hld : l.length ≤ d) (h1 : HoldsI w p up) (h2 : HoldsI w q l) (hn : q = none → d = 0) :
    Calls Try.prog 44 #[.slice p up.length c, .slice q l.length d] w fun e w' => e = .returned (.bool (besideP up l)) ∧ Below w.heap.size w w' := by
  have CH := Lib.hid (check_any q l d w (by omega) hld h2)
  have UP := Lib.hid (up_any q l d w hl hld h2 hn)
  have g1 : (l.length : Int) ≤ 17592186044416 := by omega
  unfold besideP
  by_cases h0 : l.length = 0
  · rw [decide_eq_true h0, Bool.true_or, h0]
    clear hul hl huc hld h1 h2 hn h0 CH UP g1
    go_enter Try.func44, Try.ntmps44
    go_wp2_with (fail)
    go_ret
    exact ⟨rfl, Below.refl _ _⟩
  · have q0 : ((l.length : Int) == 0) = false := by rw [beq_eq_false_iff_ne]; omega
    rw [decide_eq_false h0, Bool.false_or]
    by_cases hc : checkP l = 0
    · rw [decide_eq_true hc, Bool.true_and]
      rw [hc] at CH
      have hlen := checkP_len hc
      have HQ := Lib.hid (And.intro h1 (And.intro hul huc))
      obtain ⟨u, hu⟩ : ∃ u, upP l = u := ⟨_, rfl⟩
      have hul2 : u.length ≤ l.length := by rw [← hu]; unfold upP; rw [List.length_take]; omega
      rw [hu] at UP ⊢
      clear hul hl huc hld h1 h2 hn h0 hc hu
      go_enter Try.func44, Try.ntmps44
      go_wp2_with (fail)
      refine (CH.out).mono ?_
      rintro e w' ⟨rfl, rfl⟩
      go_wp2_with (fail)
      refine (UP.out).mono ?_
      rintro e w1 ⟨q1, c1, rfl, ho, hb⟩
      have E := Lib.hid (equalI_any q1 p u up c1 c w1 (by omega) (by have := HQ.out.2.1; omega) ho.2.2 HQ.out.2.2 ho.holds (HQ.out.1.below hb))
      have HB := Lib.hid hb
      clear ho hb hul2
      go_wp2_with (fail)
      refine (E.out).mono ?_
      rintro e w2 ⟨rfl, hb⟩
      have HB2 := Lib.hid (t_cat HB.out hb)
      clear hb
      go_wp2_with (fail)
      go_ret
      exact ⟨rfl, HB2.out⟩
    · rw [decide_eq_false hc, Bool.false_and]
      have q1 : (checkP l == 0) = false := by rw [beq_eq_false_iff_ne]; exact hc
      generalize checkP l = x at *
      clear hul hl huc hld h1 h2 hn h0 hc UP
      go_enter Try.func44, Try.ntmps44
      go_wp2_with (fail)
      refine (CH.out).mono ?_
      rintro e w' ⟨rfl, rfl⟩
      go_wp2_with (fail)
      go_ret
      exact ⟨rfl, Below.refl _ _⟩
set_option maxRecDepth 100000 in
set_option maxHeartbeats 2000000 in
theorem inOrder_any (p q : Option Addr) (l m : List Int) (c d : Nat) (w : World) (hl : l.length ≤ 140737488355328) (hm : m.length ≤ 140737488355328) (hlc : l.length ≤ c) (hmd : m.length ≤ d) (h1 : HoldsI w p l) (h2 : HoldsI w q m) :
    Calls Try.prog 45 #[.slice p l.length c, .slice q m.length d] w fun e w' => e = .returned (.bool (orderP l m)) ∧ w = w' := by
  have CM := Lib.hid (compare_any p q l m c d w hl hm hlc hmd h1 h2)
  have g1 : (l.length : Int) ≤ 140737488355328 := by omega
  have g2 : (m.length : Int) ≤ 140737488355328 := by omega
  unfold orderP
  clear hl hm hlc hmd h1 h2
  by_cases h0 : l.length = 0
  · rw [decide_eq_true h0, Bool.true_or, Bool.true_or, h0]
    clear h0 CM
    go_enter Try.func45, Try.ntmps45
    go_wp2_with (fail)
    go_ret
    exact ⟨rfl, rfl⟩
  · have q0 : ((l.length : Int) == 0) = false := by rw [beq_eq_false_iff_ne]; omega
    rw [decide_eq_false h0, Bool.false_or]
    clear h0
    by_cases h0 : m.length = 0
    · rw [decide_eq_true h0, Bool.true_or, h0]
      clear h0 CM
      go_enter Try.func45, Try.ntmps45
      go_wp2_with (fail)
      go_ret
      exact ⟨rfl, rfl⟩
    · have q1 : ((m.length : Int) == 0) = false := by rw [beq_eq_false_iff_ne]; omega
      rw [decide_eq_false h0, Bool.false_or]
      clear h0
      obtain ⟨x, hx⟩ : ∃ x, cmpN l m = x := ⟨_, rfl⟩
      rw [hx] at CM ⊢
      clear hx
      go_enter Try.func45, Try.ntmps45
      go_wp2_with (fail)
      refine (CM.out).mono ?_
      rintro e w' ⟨rfl, rfl⟩
      go_wp2_with (fail)
      go_ret
      exact ⟨rfl, rfl⟩
/-- What is a part of what stands in memory. -/
structure PartI (w : World) (e : Ending) (l : List Int) (p : Option Addr) (c : Nat) : Prop where
  ret : e = .returned (.slice p l.length c)
  holds : HoldsI w p l
  cap : l.length ≤ c
  nn : p = none → c = 0
theorem behind_any (p q : Option Addr) (up l : List Int) (c d : Nat) (w : World) (hul : up.length ≤ 1048576) (hl : l.length ≤ 140737488355328) (hld : l.length ≤ d) (h2 : HoldsI w q l) (hlt : l.length = 0 ∨ up.length < l.length) :
    Calls Try.prog 48 #[.slice p up.length c, .slice q l.length d] w fun e w' => (∃ p' c', PartI w e (behindP up l) p' c') ∧ w = w' := by
  have g1 : (l.length : Int) ≤ 140737488355328 := by omega
  have g2 : (up.length : Int) ≤ 1048576 := by omega
  unfold behindP
  by_cases h0 : l.length = 0
  · rw [if_pos h0, h0]
    clear hul hl hld h2 hlt g1
    go_enter Try.func48, Try.ntmps48
    go_wp2_with (fail)
    go_ret
    exact ⟨⟨none, 0, rfl, fun h => by simp at h, Nat.le_refl _, fun _ => rfl⟩, rfl⟩
  · rw [if_neg h0]
    obtain ⟨b, off, rfl, hc⟩ := h2 (by omega)
    have HC := Lib.hid hc
    obtain ⟨n, hn⟩ : ∃ n, up.length = n := ⟨_, rfl⟩
    obtain ⟨m, hm⟩ : ∃ m, l.length = m := ⟨_, rfl⟩
    have HN := Lib.hid (And.intro hm hld)
    have hdl : (l.drop n).length = m - n := by rw [List.length_drop, hm]
    have HD := Lib.hid hdl
    rw [hn, hm]
    rw [hm] at g1
    rw [hn] at g2
    have q0 : ((m : Int) == 0) = false := by rw [beq_eq_false_iff_ne]; omega
    have hnm : n < m := by omega
    have g3 : (n : Int) ≤ (m : Int) := by omega
    have g4 : (m : Int) ≤ (d : Int) := by omega
    have g5 : (n : Int) ≤ (d : Int) := by omega
    have g6 : ¬ d = n := by omega
    have g7 : (0 : Int) ≤ (n : Int) := by omega
    have HLT := Lib.hid hnm
    clear hul hl hld h2 hlt hc hn hm h0 hdl hnm
    go_enter Try.func48, Try.ntmps48
    go_wp2_with (fail)
    go_ret
    refine ⟨⟨some ⟨b, off + n, none⟩, d - n, ?_, fun _ => ⟨b, off + n, rfl, fun j hj => ?_⟩, by rw [HD.out]; have := HN.out; omega, fun e => (by cases e)⟩, rfl⟩
    · rw [HD.out]
      rfl
    · rw [HD.out] at hj
      have h1 := HN.out
      rw [Nat.add_assoc, HC.out (n + j) (by omega)]
      rw [List.getD_eq_getElem?_getD, List.getD_eq_getElem?_getD, List.getElem?_drop]
end Go.Proofs.Ytaiiigknlnhdgaa
