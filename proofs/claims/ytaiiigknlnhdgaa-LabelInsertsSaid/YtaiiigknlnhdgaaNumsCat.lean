/- Proved here: a call's own row of numbers, made longer by another list; what slices.Grow of nothing and slices.Concat of two lists answer. -/
import Derived.Test.YtaiiigknlnhdgaaLabUp
import Derived.Lib.AppendZeros
import Derived.Laws.AppendOwnNone
namespace Go.Proofs.Ytaiiigknlnhdgaa
open Go.RowKit

theorem appendI_list {w : World} {B : Nat} {q p : Option Addr} {c d : Nat} {l m : List Int} (h : OwnI w B q c l) (hp : HoldsI w p m) (hn : p = none → d = 0) (hB : B ≤ w.heap.size) (hsz : (l.length + m.length) * 8 ≤ 140737488355328) :
    ∃ q' c' w', (∀ ty, (Builtin.append_ #[22, 22] ty #[.slice q l.length c, .slice p m.length d]).run Try.prog w = .ok (.slice q' (l.length + m.length) c') w') ∧
      OwnI w' B q' c' (l ++ m) ∧ w.grownBy w' (Value.slice q l.length c).ownBlock := by
  obtain ⟨i0, hi, hz0, hz1, hz2⟩ := info_parts infoInt
  cases p with
  | none =>
    have h0 : m.length = 0 := by
      rcases Nat.eq_zero_or_pos m.length with h | h
      · exact h
      · obtain ⟨_, _, e, _⟩ := hp h; cases e
    obtain rfl : m = [] := List.eq_nil_of_length_eq_zero h0
    rw [hn rfl, List.append_nil]
    refine ⟨q, c, w, fun ty => ?_, h, World.grownBy.refl w _⟩
    exact run_append_owned_none (P := Try.prog) (w := w) B 22 ty 3 i0 1 Try.underlying22 hi _ l.length (intV l) h.1
  | some a =>
    have hcells : ∀ j u, (intV m)[j]? = some u → w.cell? (a.add j) = some u := by
      intro j u hu
      have hj : j < m.length := by
        have := (List.getElem?_eq_some_iff.1 hu).1
        rwa [intV_length] at this
      obtain ⟨b, off, e, hc⟩ := hp (by omega)
      obtain rfl := Option.some.inj e
      have ha : (⟨b, off, none⟩ : Addr).add j = ⟨b, off + j, none⟩ := by unfold Addr.add; split <;> simp_all
      rw [ha, hc j hj, ← hu, intV_get m j hj]
    obtain ⟨v', w', hrun, hown', hgrow, hne⟩ := run_append_own (P := Try.prog) (w := w) B 22 22 3 i0 (.int .i64 0) 1 8 Try.underlying22 hi hz0 hz1 hz2 rfl (by decide) _ l.length (intV l) h.1 a m.length d (intV m) (by rw [intV_length, Nat.mul_one]) hcells (intV_one m) (by unfold maxLen; omega) (by omega) hB
    have hl : (l ++ m).length = l.length + m.length := by simp
    rw [show intV l ++ intV m = intV (l ++ m) by simp [intV]] at hown'
    have hrun' : ∀ ty, (Builtin.append_ #[22, 22] ty #[.slice q l.length c, .slice (some a) m.length d]).run Try.prog w = .ok v' w' := fun ty => by rw [← hrun]; rfl
    rcases hown'.2 with ⟨rfl, h0⟩ | ⟨g, cap, cur, rfl, hb, hh, hc, h1, h2⟩
    · refine ⟨none, 0, w', fun ty => ?_, ⟨?_, fun _ => rfl, by rw [hl]; omega⟩, hgrow⟩
      · rw [hrun' ty, h0]
      · rw [hl, h0]
        rw [h0] at hown'
        exact hown'
    · refine ⟨some ⟨g, 0, none⟩, cap, w', hrun', ⟨?_, (fun e => (by cases e)), by rw [hl]; exact hc⟩, hgrow⟩
      rw [hl]; exact hown'
/-- The walk's step at an append of two kinds of argument whose run is known. -/
theorem t_append2_eq {P : Program} {w : World} {ops : Array Oper} {rest : List Oper} {o : Oper} {a : Act} {Q : Exit → Act → World → Prop} (hgd : o.guard = none) (s x : Operand) (t tn : TypeId)
    (ho : o.op = .call { callee := .builtin .append, args := #[s, x], argTypes := #[t, tn] }) (v u v' : Value) (w' : World) (hs : a.eval s = v) (hx : a.eval x = u)
    (hrun : ∀ ty, (Builtin.append_ #[t, tn] ty #[v, u]).run P w = .ok v' w')
    (h : wpList P ops Q rest (a.put o.dst v') w') : wpList P ops Q (o :: rest) a w := by
  refine wpList_plain hgd fun K hK => ?_
  have hr := hrun o.type
  unfold Oper.wp
  simp [execOp, ho, resolve, invoke, builtin, hs, hx, hr, Result.andThen]
  exact hK _ _ h
def GrowPost (w : World) (e : Ending) (w' : World) : Prop := ∃ q c, e = .returned (.slice q 0 c) ∧ OwnI w' w.heap.size q c [] ∧ Below w.heap.size w w'
set_option maxRecDepth 100000 in
set_option maxHeartbeats 1000000 in
theorem grow_any (n : Nat) (w : World) (hn : n ≤ 1048576) : Calls Try.prog 59 #[.slice none 0 0, .int .i64 (n : Int)] w (GrowPost w) := by
  cases n with
  | zero =>
    go_enter Try.func59, Try.ntmps59
    go_wp2_with (fail)
    go_ret
    exact ⟨none, 0, rfl, OwnI.nil _ _, Below.refl _ _⟩
  | succ n =>
    obtain ⟨i0, hi, hz0, hz1, hz2⟩ := info_parts infoInt
    have hrun := fun ty => Lib.run_append_nil_zeros (P := Try.prog) w 22 3 ty 3 i0 (.int .i64 0) .i64 .i64 Try.underlying22 Try.underlying3 hi hz0 (n + 1) (by omega) (by omega) (by omega) (by rw [hz2]; omega)
    obtain ⟨cap, hcap⟩ : ∃ cap, grownCap w (n + 1) 0 3 = cap := ⟨_, rfl⟩
    obtain ⟨W1, hW1⟩ : ∃ W, w.drew.alloc (.cells (Builtin.zeroCells (Value.int .i64 0).cells (n + 1) ++ Builtin.zeroCells (Value.int .i64 0).cells (grownCap w (n + 1) 0 3 - (n + 1))) 3) = W := ⟨_, rfl⟩
    have hge := grownCap_ge w (n + 1) 0 3
    have hml := grownCap_le_maxLen w (n + 1) 0 3 (by unfold maxLen; omega)
    have hown : OwnI W1 w.heap.size (some ⟨w.heap.size, 0, none⟩) cap [] := by
      rw [← hW1, ← hcap]
      refine ⟨World.ownsRow_made w.drew _ _ (by show w.heap.size ≤ w.heap.size; exact Nat.le_refl _) hml ?_, fun e => (by cases e), Nat.zero_le _⟩
      rw [Array.size_append, size_zeroCells, size_zeroCells]
      show (n + 1) * 1 + (_ - (n + 1)) * 1 = _ * 1
      omega
    have hb : Below w.heap.size w W1 := by rw [← hW1]; exact (Below.refl _ _).drew.alloc (by show w.heap.size ≤ w.heap.size; exact Nat.le_refl _) _
    have HP := Lib.hid (And.intro hown hb)
    rw [hW1, hcap] at hrun
    rw [hcap] at hge
    have HR := Lib.hid hrun
    have hnn : (n : Int) ≤ 1048576 := by omega
    have hcc : (n : Int) + 1 ≤ (cap : Int) := by omega
    have h0 : (0 : Int) < ((n + 1 : Nat) : Int) := by omega
    clear hrun hown hb hge hml hcap hn hi hz0 hz1 hz2 hW1
    go_enter Try.func59, Try.ntmps59
    go_wp2_with (at_builtin; refine t_append2_eq rfl _ _ _ _ rfl _ _ _ _ rfl rfl HR.out ?_)
    go_ret
    exact ⟨_, cap, rfl, HP.out.1, HP.out.2⟩
/-- What Concat has put together behind k lists. -/
def catL (a b : List Int) : Nat → List Int
  | 0 => []
  | 1 => a
  | _ => a ++ b
def CatRel (w : World) (a b : List Int) (v6 v27 : Value) (wr : World) : Prop :=
  ∃ (k : Nat) (q : Option Addr) (c : Nat), v27 = .int .i64 (k : Int) ∧ k ≤ 2 ∧ v6 = .slice q (catL a b k).length c ∧ Hid (OwnI wr w.heap.size q c (catL a b k) ∧ Below w.heap.size w wr)
set_option maxRecDepth 100000 in
set_option maxHeartbeats 4000000 in
theorem concat_any (w : World) (G : Nat) (p q : Option Addr) (c d : Nat) (a b : List Int) (h0 : w.cell? ⟨G, 0, none⟩ = some (.slice p a.length c)) (h1 : w.cell? ⟨G, 1, none⟩ = some (.slice q b.length d))
    (ha : HoldsI w p a) (hb : HoldsI w q b) (hn : p = none → c = 0) (hm : q = none → d = 0) (hsz : a.length + b.length ≤ 1048576) :
    Calls Try.prog 46 #[.slice (some ⟨G, 0, none⟩) 2 2] w (ClonePost w (a ++ b)) := by
  have GR := Lib.hid (grow_any (a.length + b.length) w hsz)
  have hG : G < w.heap.size := World.block_lt_of_cell? _ _ h0
  have HC := Lib.hid (And.intro hG (And.intro h0 h1))
  have HA := Lib.hid (And.intro ha (And.intro hb (And.intro hn (And.intro hm hsz))))
  obtain ⟨x, hx⟩ : ∃ x, a.length = x := ⟨_, rfl⟩
  obtain ⟨y, hy⟩ : ∃ y, b.length = y := ⟨_, rfl⟩
  rw [hx] at h0
  rw [hy] at h1
  rw [hx, hy] at GR
  have HX := Lib.hid (And.intro hx hy)
  have hxx : (x : Int) ≤ 1048576 := by omega
  have hyy : (y : Int) ≤ 1048576 := by omega
  clear ha hb hn hm hsz hG hx hy
  go_enter Try.func46, Try.ntmps46
  go_wp2_with (fail)
  go_loop [3, 11] (fun s v => (v = .int .i64 0 ∧ s = .int .i64 0) ∨ (v = .int .i64 1 ∧ s = .int .i64 (x : Int)) ∨ (v = .int .i64 2 ∧ s = .int .i64 ((x : Int) + (y : Int)))) (fun _ v => 2 - (intOf v).toNat)
  case atStart => exact .inl ⟨rfl, rfl⟩
  case round =>
    rcases hrel with ⟨rfl, rfl⟩ | ⟨rfl, rfl⟩ | ⟨rfl, rfl⟩
    · go_wp2_with (fail)
      go_round
      case rel => exact .inr (.inl ⟨rfl, by first | rfl | go_num⟩)
      case measure => simp [intOf]
    · go_wp2_with (fail)
      go_round
      case rel => exact .inr (.inr ⟨rfl, rfl⟩)
      case measure => simp [intOf]
    · have es : ((x + y : Nat) : Int) = (x : Int) + (y : Int) := by omega
      rw [es] at GR
      clear es
      go_wp2_with (fail)
      refine (GR.out).mono ?_
      rintro e w1 ⟨q0, c0, rfl, ho, hb⟩
      have HO := Lib.hid (And.intro ho hb)
      clear ho hb
      go_wp2_with (fail)
      go_loopw [6, 27] (fun a6 v wr => CatRel w a b a6 v wr) (fun _ v _ => 2 - (intOf v).toNat)
      case atStart => exact ⟨0, q0, c0, rfl, by decide, rfl, HO.out⟩
      case round =>
        obtain ⟨k, q1, c1, rfl, hk, rfl, HK⟩ := hrel
        rcases (show k = 0 ∨ k = 1 ∨ k = 2 by omega) with rfl | rfl | rfl
        · have d0 : wr.cell? ⟨G, 0, none⟩ = some (.slice p a.length c) := t_cell HK.out.2 HC.out.2.1
          obtain ⟨q2, c2, w2, hrun, hown, hgr⟩ := appendI_list HK.out.1 (HA.out.1.below HK.out.2) HA.out.2.2.1 HK.out.2.size (by have := HA.out.2.2.2.2; show (0 + _) * 8 ≤ _; omega)
          have hl0 : (catL a b 0).length = 0 := rfl
          rw [hl0] at hrun hgr
          have HR := Lib.hid hrun
          have HW := Lib.hid (And.intro hown hgr)
          clear hrun hown hgr hl0 h0 h1
          go_wp2_with (at_builtin; refine t_append_eq rfl _ _ _ rfl _ _ _ _ rfl rfl HR.out ?_)
          go_round
          case rel => exact ⟨1, q2, c2, rfl, by decide, by first | rfl | (show _ = Value.slice q2 a.length c2; rw [Nat.zero_add]), Lib.hid ⟨HW.out.1, HK.out.2.grown HW.out.2 HK.out.2.size (fun j e => (World.ownsRow.lt HK.out.1.1 j e).1)⟩⟩
          case measure => simp [intOf]
        · have d1 : wr.cell? ⟨G, 1, none⟩ = some (.slice q b.length d) := t_cell HK.out.2 HC.out.2.2
          obtain ⟨q2, c2, w2, hrun, hown, hgr⟩ := appendI_list HK.out.1 (HA.out.2.1.below HK.out.2) HA.out.2.2.2.1 HK.out.2.size (by have := HA.out.2.2.2.2; show (a.length + _) * 8 ≤ _; omega)
          have HR := Lib.hid hrun
          have HW := Lib.hid (And.intro hown hgr)
          clear hrun hown hgr h0 h1
          go_wp2_with (at_builtin; refine t_append_eq rfl _ _ _ rfl _ _ _ _ rfl rfl HR.out ?_)
          go_round
          case rel => exact ⟨2, q2, c2, rfl, by decide, by show _ = Value.slice q2 (a ++ b).length c2; rw [List.length_append]; rfl, Lib.hid ⟨HW.out.1, HK.out.2.grown HW.out.2 HK.out.2.size (fun j e => (World.ownsRow.lt HK.out.1.1 j e).1)⟩⟩
          case measure => simp [intOf]
        · go_wp2_with (fail)
          go_ret
          exact ⟨q1, c1, rfl, HK.out.1, HK.out.2⟩
end Go.Proofs.Ytaiiigknlnhdgaa
