/- Proved here: the reader's written where a name begins: the written name, and where it leaves the reader. -/
import Derived.Test.YteipiaefamfleaaGreatDoorM1
import Derived.Deep.DeepCutAuto
import Derived.Deep.LoopGhost
namespace Go.Proofs.YteipiaefamfleaaGreatDoor
open Go.RowKit

theorem next_drew {w0 w : World} {R b off cap k : Nat} {t : ByteArray} (E : Env w0 R b off cap t) (hB : Below w0.heap.size w0 w) :
    Calls Tryz.prog 18 #[rv b off cap t, .int .i64 (k : Int)] w.drew fun e w' => e = .returned (.tuple #[.int .i32 ((nextE t k).1 : Int), .int .i64 ((nextE t k).2.1 : Int), .int .i64 ((nextE t k).2.2 : Int)]) ∧ Below w.heap.size w w' :=
  (next_any t b off cap k w.drew (E.tabs.below hB.drew) (E.at_ hB.drew)).mono fun _ _ g => And.intro g.1 (below_cat (Below.refl w.heap.size w).drew g.2)
def WrRel (t : ByteArray) (R b off cap k i : Nat) (w : World) (f : Nat) (v5 v6 v7 : Value) (wr : World) : Prop := ∃ (j c m e : Nat), nextE t j = (c, m, e) ∧ v5 = .int .i32 c ∧ v6 = .int .i64 m ∧ v7 = .int .i64 e ∧ Rd wr R (rv b off cap t) j ∧ Moved R w wr ∧ j ≤ t.size ∧ k ≤ j ∧ t.size ≤ j + f ∧ partsGo t f j = i
theorem next_goes {t : ByteArray} {j c m e : Nat} (hA : nextE t j = (c, m, e)) (hg : goesB t j) : e = 0 ∧ j < m ∧ m ≤ t.size ∧ (c = 58 ∨ partB (c : Int) = true) ∧ (nextF t j).2.1 = m := by
  obtain ⟨g1, g2, g3⟩ := hg
  have h := next_step g1 g2
  unfold nextE at hA
  rw [if_pos g1] at hA
  rw [hA] at g2 g3 h ⊢
  exact ⟨g2, h.1, h.2, g3, rfl⟩
theorem next_stops {t : ByteArray} {j c m : Nat} (hA : nextE t j = (c, m, 0)) (hg : ¬ goesB t j) : ¬ c = 58 ∧ partB (c : Int) = false := by
  have h := nextE_in (t := t) (k := j) (by rw [hA])
  have h2 := h.2.symm.trans hA
  constructor
  · exact fun e => hg ⟨h.1, by rw [h2], by rw [h2]; exact .inl e⟩
  · rw [← Bool.not_eq_true]
    exact fun e => hg ⟨h.1, by rw [h2], by rw [h2]; exact .inr e⟩

set_option maxHeartbeats 16000000 in
set_option maxRecDepth 100000 in
theorem written_yes (t n : ByteArray) (b off cap R k i : Nat) (w0 w : World) (E : Env w0 R b off cap t) (hB : Below w0.heap.size w0 w) (h : Rd w R (rv b off cap t) k) (hq : nameF t k = .ok (n, i)) :
    Calls Tryz.prog 46 #[.pointer (some ⟨R, 0, none⟩)] w fun e w' => e = .returned (.tuple #[.string n, .int .i64 0]) ∧ Rd w' R (rv b off cap t) i ∧ Moved R w w' := by
  have N := Lib.hid (next_drew (k := k) E hB)
  have N2 := Lib.hid (fun W j (y : Below w0.heap.size w0 W) => next_drew (k := j) E y)
  obtain ⟨q1, q2, q3, q4, q5, q6, q7⟩ := name_ok hq
  have hn : nextE t k = nextF t k := if_pos q5
  have h0 := h.text
  have h1 := h.place
  have HE := Lib.hid (And.intro E (And.intro hB (And.intro h (And.intro q1 (And.intro q2 (And.intro q4 (And.intro q5 q3)))))))
  obtain ⟨c, m, e, hA⟩ : ∃ c m e, nextE t k = (c, m, e) := ⟨_, _, _, rfl⟩
  rw [hA] at N
  rw [← hn, hA] at q6 q7
  simp only at N q6 q7
  subst q6
  have HA := Lib.hid hA
  clear hq h E hB hn hA q1 q2 q3 q4 q5
  have q8 : c = 58 ∨ (¬ c = 58 ∧ startB (c : Int) = true) := by
    by_cases hc : c = 58
    · exact .inl hc
    · exact .inr ⟨hc, q7.resolve_left hc⟩
  clear q7
  go_enter Tryz.func46, Tryz.ntmps46
  go_upto_region 2 with fail
  go_cut [5, 6, 7] (fun v5 v6 v7 wx => v5 = .int .i32 (c : Int) ∧ v6 = .int .i64 (m : Int) ∧ v7 = .int .i64 0 ∧ Below w.heap.size w wx)
  case first =>
    go_region_with (go_at_call 18; refine N.out.mono ?_; rintro e w1 ⟨rfl, hb⟩)
    all_goals (go_wp2_with fail; go_meet; exact ⟨rfl, rfl, rfl, hb⟩)
  case rest =>
    obtain ⟨rfl, rfl, rfl, hb⟩ := hcut
    have HB := Lib.hid hb
    clear hb h0 h1
    go_upto_region 3 with fail
    go_cut [35] (fun v35 wx => v35 = .bool false ∧ wx = wc)
    case first =>
      rcases q8 with hc | ⟨hc, hs⟩
      · subst hc
        go_wp2_with (fail)
        go_meet
        exact ⟨rfl, rfl⟩
      · have f1 : ((c : Int) == 58) = false := by rw [beq_eq_false_iff_ne]; omega
        have f2 : ¬ (c : Int) = 58 := by omega
        have IS := Lib.hid (fun W => isStart (c : Int) W)
        rw [hs] at IS
        clear hs hc
        go_wp2_with (go_at_call 62; refine (IS.out _).mono ?_; rintro e w2 ⟨rfl, rfl⟩)
        all_goals first
          | (exfalso; omega)
          | (go_meet; exact ⟨rfl, rfl⟩)
    case rest =>
      obtain ⟨rfl, hwc⟩ := hcut
      subst hwc
      clear q8
      go_wp2_with (fail)
      go_loopg [5, 6, 7] t.size (fun f v5 v6 v7 wr => WrRel t R b off cap k i w f v5 v6 v7 wr)
      case atStart => exact ⟨k, c, m, 0, HA.out, rfl, rfl, rfl, HE.out.2.2.1.below HB.out, Moved.of_below HB.out, Nat.le_of_lt HE.out.2.2.2.2.2.2.1, Nat.le_refl _, Nat.le_add_left _ _, HE.out.2.2.2.2.2.1⟩
      case round =>
        obtain ⟨j, c', m', e', hA, rfl, rfl, rfl, hr, hm, hj, hkj, hf, hi⟩ := hrel
        by_cases hg : goesB t j
        · obtain ⟨rfl, g2, g3, g4, g5⟩ := next_goes hA hg
          obtain ⟨f', rfl⟩ : ∃ f', gk = f' + 1 := ⟨gk - 1, by have := hg.1; omega⟩
          rw [parts_step hg, g5] at hi
          have HI := Lib.hid hi
          have HG := Lib.hid (And.intro g2 (And.intro g3 (And.intro hkj (And.intro hf (And.intro hj hm)))))
          have HR := Lib.hid hr
          have h0' := hr.text
          have h1' := hr.place
          have hf1 := hr.free
          have HSET := Lib.hid (hr.set m')
          have HB1 := Lib.hid (HE.out.1.go (HE.out.1.go HE.out.2.1 hm) (hr.set m').2)
          clear hi hA g2 g3 g5 hg hm hr hf hkj hj
          go_upto_region 5 with fail
          go_cut [45] (fun v45 wx => v45 = .bool true ∧ wx = wr)
          case first =>
            by_cases hc : c' = 58
            · subst hc
              go_wp2_with (fail)
              go_meet
              exact ⟨rfl, rfl⟩
            · have hs := g4.resolve_left hc
              have f1 : ((c' : Int) == 58) = false := by rw [beq_eq_false_iff_ne]; omega
              have f2 : ¬ (c' : Int) = 58 := by omega
              have IP := Lib.hid (fun W => isPart (c' : Int) W)
              rw [hs] at IP
              clear hs hc g4
              go_wp2_with (go_at_call 63; refine (IP.out _).mono ?_; rintro e w2 ⟨rfl, rfl⟩)
              all_goals first
                | (exfalso; omega)
                | (go_meet; exact ⟨rfl, rfl⟩)
          case rest =>
            obtain ⟨rfl, hwc⟩ := hcut
            subst hwc
            clear g4
            go_wp2_with (fail)
            obtain ⟨W1, hW1⟩ : ∃ W, wc.setCell ⟨R, 1, none⟩ (.int .i64 (m' : Int)) = W := ⟨_, rfl⟩
            rw [hW1]
            rw [hW1] at HSET HB1
            have r0 := HSET.out.1.text
            have r1 := HSET.out.1.place
            clear h0' h1' hf1 hW1
            go_region_with (go_at_call 18; refine (N2.out W1 m' HB1.out).mono ?_; rintro e w3 ⟨rfl, hb3⟩)
            all_goals
              have HB3 := Lib.hid hb3
              clear hb3 r0 r1
              go_wp2_with (fail)
              go_roundg f'
              case measure => omega
              case rel =>
                go_light
                exact ⟨m', _, _, _, rfl, rfl, rfl, rfl, HSET.out.1.below HB3.out, (HG.out.2.2.2.2.2.trans HSET.out.2).trans (Moved.of_below HB3.out), HG.out.2.1, by have := HG.out; omega, by have := HG.out; omega, HI.out⟩
        · rw [parts_stop hg] at hi
          have hx := HE.out.1.at_ (HE.out.1.go HE.out.2.1 hm)
          have hkj2 : k < j := by rw [hi]; exact HE.out.2.2.2.1
          have hxd : Txt wr.drew b off cap t := ⟨hx.room, hx.small, fun i hi => hx.cells i hi⟩
          have hcv := conv_part hxd hj hkj2
          clear hxd
          have h0' := hr.text
          have h1' := hr.place
          have hbs : (j : Int) ≤ (cap : Int) := by have := hx.room; omega
          have hbn : (0 : Int) ≤ (k : Int) := by omega
          have hbl : (k : Int) ≤ (j : Int) := by omega
          have hne : ¬ cap = k := by have := hx.room; omega
          have HR := Lib.hid (And.intro hr (And.intro hm hi))
          clear hx hr hm hf hi
          go_upto_region 5 with fail
          go_cut [45] (fun v45 wx => v45 = .bool false ∧ wx = wr)
          case first =>
            by_cases hez : e' = 0
            · subst hez
              obtain ⟨s1, s2⟩ := next_stops hA hg
              have f1 : ((c' : Int) == 58) = false := by rw [beq_eq_false_iff_ne]; omega
              have f2 : ¬ (c' : Int) = 58 := by omega
              have IP := Lib.hid (fun W => isPart (c' : Int) W)
              rw [s2] at IP
              clear s1 s2 hA hg hcv
              go_wp2_with (go_at_call 63; refine (IP.out _).mono ?_; rintro e w2 ⟨rfl, rfl⟩)
              all_goals first
                | (exfalso; omega)
                | (go_meet; exact ⟨rfl, rfl⟩)
            · have f1 : ((e' : Int) == 0) = false := by rw [beq_eq_false_iff_ne]; omega
              have f2 : ¬ (e' : Int) = 0 := by omega
              clear hA hg hcv
              go_wp2_with (fail)
              all_goals first
                | (exfalso; omega)
                | (go_meet; exact ⟨rfl, rfl⟩)
          case rest =>
            obtain ⟨rfl, hwc⟩ := hcut
            subst hwc
            clear hA hg
            go_wp2_with (fail)
            have hnn : n = t.extract k j := HE.out.2.2.2.2.2.2.2.trans (by rw [HR.out.2.2])
            have HN := Lib.hid hnn
            clear hnn
            go_region_with (fail)
            all_goals
              go_wp2_with (fail)
              go_ret2
              exact ⟨by rw [HN.out]; rfl, by rw [← HR.out.2.2]; exact HR.out.1, HR.out.2.1.trans (Moved.of_below ((Below.refl _ _).drew))⟩
end Go.Proofs.YteipiaefamfleaaGreatDoor
