/- Proved here: what slices.Equal and trail.Under answer. -/
import Derived.Test.YtpcdcndniibalaaDoorTrailOrd
namespace Go.Proofs.YtpcdcndniibalaaDoor
open Go.RowKit

theorem t_drewN (w : World) (n : Nat) : Below w.heap.size w (w.drewN n) := ⟨rfl, rfl, rfl, Nat.le_refl _, fun _ _ => rfl⟩
theorem t_quiet {P : Program} {f : FuncId} {args : Array Value} {w : World} {n : Nat} {v : Value} (h : Calls P f args (w.drewN n) fun e w' => e = .returned v ∧ ∃ m, w' = (w.drewN n).drewN m) : Calls P f args (w.drewN n) fun e w'' => e = .returned v ∧ ∃ m, w'' = w.drewN m :=
  Calls.quiet_of h
theorem eq_drop {l m : List Int} {k : Nat} (h1 : k < l.length) (h2 : k < m.length) : decide (l.drop k = m.drop k) = ((l.getD k 0 == m.getD k 0) && decide (l.drop (k + 1) = m.drop (k + 1))) := by
  rw [drop_getD h1, drop_getD h2]
  by_cases e : l.getD k 0 = m.getD k 0
  · rw [e]; simp
  · rw [beq_eq_false_iff_ne.2 e, decide_eq_false (fun q => e (List.cons.inj q).1)]
    rfl

set_option maxHeartbeats 1000000 in
theorem eqList_any (p q : Option Addr) (l m : List Int) (c d : Nat) (w : World) (hl : l.length ≤ 140737488355328) (hm : m.length ≤ 140737488355328) (hlc : l.length ≤ c) (hmd : m.length ≤ d) (h1 : HoldsI w p l) (h2 : HoldsI w q m) :
    Calls Tryd.prog 29 #[.slice p l.length c, .slice q m.length d] w fun e w' => e = .returned (.bool (decide (l = m))) ∧ ∃ n, w' = w.drewN n := by
  by_cases hn : l.length = m.length
  · have H1 := Lib.hid h1
    have H2 := Lib.hid h2
    have hn0 : ((l.length : Int) == (m.length : Int)) = true := by rw [hn]; simp
    have hn1 : ((l.length : Int) != (m.length : Int)) = false := by rw [hn]; simp
    obtain ⟨ANS, hA⟩ : ∃ ANS, decide (l = m) = ANS := ⟨_, rfl⟩
    rw [hA]
    have HA := Lib.hid hA
    have HN := Lib.hid hn
    have h0 : (l.length : Int) ≤ 140737488355328 := by omega
    clear hA h1 h2 hn
    go_enter Tryd.func29, Tryd.ntmps29
    go_wp2_with (fail)
    go_loopw [13] (fun v wr => ∃ k : Nat, v = .int .i64 (k : Int) ∧ k ≤ l.length ∧ Hid (decide (l.drop k = m.drop k) = ANS) ∧ ∃ n, wr = w.drewN n) (fun v _ => l.length - (intOf v).toNat)
    case atStart => exact ⟨0, rfl, Nat.zero_le _, HA, 0, rfl⟩
    case round =>
      obtain ⟨k, rfl, hk1, HK, n, rfl⟩ := hrel
      by_cases hlt : k < l.length
      · have hmt : k < m.length := by have := HN.out; omega
        obtain ⟨b, off, rfl, hc⟩ := H1.out (by omega)
        have c1 := hc k hlt
        clear hc
        obtain ⟨b2, off2, rfl, hc⟩ := H2.out (by omega)
        have c2 := hc k hmt
        clear hc
        rw [eq_drop hlt hmt] at HK
        have g1 : (k : Int) < (l.length : Int) := by omega
        have g2 : (k : Int) < (m.length : Int) := by omega
        generalize l.getD k 0 = x at *
        generalize m.getD k 0 = y at *
        by_cases h3 : x = y
        · subst h3
          simp only [beq_self_eq_true, Bool.true_and] at HK
          have e0 : (x == x) = true := by simp
          have e1 : (x != x) = false := by simp
          go_wp2_with (fail)
          go_quiet (fail)
          go_wp2_with (fail)
          go_roundw
          case rel => exact ⟨k + 1, by go_num, by omega, HK, _, rfl⟩
          case measure => simp [intOf]; omega
        · have e0 : (x == y) = false := by rw [beq_eq_false_iff_ne]; exact h3
          have e1 : (x != y) = true := by rw [bne_iff_ne]; exact h3
          rw [e0, Bool.false_and] at HK
          clear h3
          go_wp2_with (fail)
          go_quiet (fail)
          go_wp2_with (fail)
          go_ret
          exact ⟨ret_b HK.out, _, by first | rfl | exact World.drewN_drewN _ _ _⟩
      · obtain rfl : k = l.length := by omega
        have e : l.drop l.length = m.drop l.length := by
          rw [List.drop_length, List.drop_eq_nil_of_le (by have := HN.out; omega)]
        rw [e, decide_eq_true rfl] at HK
        clear e
        go_wp2_with (fail)
        go_ret
        exact ⟨ret_b HK.out, _, rfl⟩
  · have e : decide (l = m) = false := decide_eq_false (fun e => hn (by rw [e]))
    rw [e]
    have hn0 : ((l.length : Int) == (m.length : Int)) = false := by rw [beq_eq_false_iff_ne]; omega
    have hn1 : ((l.length : Int) != (m.length : Int)) = true := by rw [bne_iff_ne]; omega
    clear e hn h1 h2
    go_enter Tryd.func29, Tryd.ntmps29
    go_wp2_with (fail)
    go_ret
    exact ⟨rfl, 0, rfl⟩

theorem under_bare {a b : Tr} (h : a.attr = false) : underT a b = decide (b.steps.take a.steps.length = a.steps) := by
  unfold underT
  rw [h]
  simp only [Bool.false_eq_true, if_false]
  rw [decide_eq_decide, List.prefix_iff_eq_take]
  exact eq_comm
theorem under_short {a b : Tr} (h : a.attr = false) (hl : ¬ a.steps.length ≤ b.steps.length) : underT a b = false := by
  unfold underT
  rw [h]
  simp only [Bool.false_eq_true, if_false]
  rw [decide_eq_false]
  intro e
  exact hl e.length_le

set_option maxRecDepth 100000 in
set_option maxHeartbeats 2000000 in
theorem under_any (p q : Option Addr) (c d : Nat) (a b : Tr) (w : World) (h1 : TrAt w p c a) (h2 : TrAt w q d b) :
    Calls Tryd.prog 16 #[TrV p c a, TrV q d b] w fun e w' => e = .returned (.bool (underT a b)) ∧ Below w.heap.size w w' := by
  cases ha : a.attr
  · by_cases hl : a.steps.length ≤ b.steps.length
    · rw [under_bare ha]
      have tk : (b.steps.take a.steps.length).length = a.steps.length := by rw [List.length_take]; omega
      have E := Lib.hid (fun W (y : Below w.heap.size w W) => eqList_any q p (b.steps.take a.steps.length) a.steps d c W (by rw [tk]; exact h1.2.2) h1.2.2 (by rw [tk]; have := h2.2.1; omega) h1.2.1 ((h2.1.take _).below y) (h1.1.below y))
      rw [tk] at E
      have l0 : decide ((a.steps.length : Int) ≤ (b.steps.length : Int)) = true := decide_eq_true (by omega)
      have l1 : (a.steps.length : Int) ≤ (b.steps.length : Int) := by omega
      have l2 : (a.steps.length : Int) ≤ (d : Int) := by have := h2.2.1; omega
      unfold TrV
      rw [ha]
      clear h1 h2 ha tk hl
      go_enter Tryd.func16, Tryd.ntmps16
      go_wp2_with (fail)
      go_quiet ((go_at_call 29; exact t_quiet (E.out _ (t_cat (((Below.refl _ _).alloc (Nat.le_refl _) _).alloc (by simp) _) (t_drewN _ _)))))
      go_wp2_with (fail)
      go_ret
      exact ⟨rfl, t_cat (((Below.refl _ _).alloc (Nat.le_refl _) _).alloc (by simp) _) (t_drewN _ _)⟩
    · rw [under_short ha hl]
      have l0 : decide (a.steps.length ≤ b.steps.length) = false := decide_eq_false hl
      have l1 : ¬ (a.steps.length : Int) ≤ (b.steps.length : Int) := by omega
      unfold TrV
      rw [ha]
      clear h1 h2 ha hl
      go_enter Tryd.func16, Tryd.ntmps16
      go_wp2_with (fail)
      go_quiet (fail)
      go_wp2_with (fail)
      go_ret
      exact ⟨rfl, t_cat (((Below.refl _ _).alloc (Nat.le_refl _) _).alloc (by simp) _) (t_drewN _ _)⟩
  · have e : underT a b = (cmpT a b == 0) := by unfold underT; rw [ha]; simp
    rw [e]
    have C := Lib.hid (fun W (y : Below w.heap.size w W) => cmpT_any p q c d a b W (h1.below y) (h2.below y))
    clear e h1 h2
    generalize cmpT a b = z at *
    unfold TrV at C ⊢
    rw [ha] at C ⊢
    clear ha
    go_enter Tryd.func16, Tryd.ntmps16
    go_wp2_with (go_at_call 15; refine (C.out _ (((Below.refl _ _).alloc (Nat.le_refl _) _).alloc (by simp) _)).mono ?_; rintro e w' ⟨rfl, hb⟩)
    go_ret
    exact ⟨rfl, t_cat (((Below.refl _ _).alloc (Nat.le_refl _) _).alloc (by simp) _) hb⟩
end Go.Proofs.YtpcdcndniibalaaDoor
