/- Proved here: the statement LabelOrders, walked: it answers true of every three lists of numbers, in every world. -/
import Derived.Test.YtaiiigknlnhdgaaLabSame
namespace Go.Proofs.Ytaiiigknlnhdgaa
open Go.RowKit

theorem above_pre {a b : List Int} : aboveP a b = true ↔ a <+: b ∧ a.length < b.length := by
  unfold aboveP
  rw [Bool.and_eq_true, decide_eq_true_iff, decide_eq_true_iff]
  constructor
  · rintro ⟨h1, h2⟩
    exact ⟨⟨b.drop a.length, by conv => lhs; lhs; rw [← h2]
                                exact List.take_append_drop _ _⟩, h1⟩
  · rintro ⟨⟨t, rfl⟩, h1⟩
    exact ⟨h1, by simp⟩
theorem above_cmp {a b : List Int} (h : aboveP a b = true) : cmpN a b = -1 := by
  obtain ⟨h1, h2⟩ := above_pre.1 h
  rw [cmpN_prefix _ _ h1, if_neg (by omega)]
theorem above_ahead {a b c : List Int} (h : aboveP a b = true) (h2 : cmpN a c < 0) (h3 : aboveP a c = false) : cmpN b c = -1 := by
  obtain ⟨h1, _⟩ := above_pre.1 h
  refine cmpN_ahead a b c h1 (fun hp => ?_) (by omega)
  have hl := hp.length_le
  by_cases q : a.length < c.length
  · rw [above_pre.2 ⟨hp, q⟩] at h3; cases h3
  · rw [cmpN_prefix _ _ hp, if_pos (by omega)] at h2; omega
set_option maxRecDepth 100000 in
set_option maxHeartbeats 32000000 in
theorem orders_ok (p q r : Option Addr) (c d f : Nat) (a b z : List Int) (w : World) (la : a.length * 8 ≤ 140737488355328) (lb : b.length * 8 ≤ 140737488355328) (lz : z.length * 8 ≤ 140737488355328) (ca : a.length ≤ c) (cb : b.length ≤ d) (cz : z.length ≤ f)
    (ha : HoldsI w p a) (hb : HoldsI w q b) (hz : HoldsI w r z) (ka : checkP a = 0) (kb : checkP b = 0) :
    Calls Try.prog 5 #[.slice p a.length c, .slice q b.length d, .slice r z.length f] w fun e w' => e = .returned (.bool true) ∧ Below w.heap.size w w' := by
  have AW := Lib.hid (awake12_any w)
  have BA := Lib.hid (fun W (h : Below w.heap.size w W) => bytes_ok p a c W (by omega) ca (ha.below h) ka)
  have BB := Lib.hid (fun W (h : Below w.heap.size w W) => bytes_ok q b d W (by omega) cb (hb.below h) kb)
  have OR := Lib.hid (fun W q1 d1 q2 d2 (x : HoldsU W q1 (packB (bitsL a))) (y : HoldsU W q2 (packB (bitsL b))) => order_any q1 q2 _ _ d1 d2 W x y (packB_lt _) (packB_lt _))
  rw [packB_length, packB_length, bytes_order a b (checkP_ok ka).1 (checkP_ok kb).1] at OR
  have ea : ((bitsL a).length + 7) / 8 = sizeP a := rfl
  have eb : ((bitsL b).length + 7) / 8 = sizeP b := rfl
  rw [ea, eb] at OR
  have CAB := Lib.hid (fun W (h : Below w.heap.size w W) => compare_any p q a b c d W (by omega) (by omega) ca cb (ha.below h) (hb.below h))
  have CAZ := Lib.hid (fun W (h : Below w.heap.size w W) => compare_any p r a z c f W (by omega) (by omega) ca cz (ha.below h) (hz.below h))
  have CBZ := Lib.hid (fun W (h : Below w.heap.size w W) => compare_any q r b z d f W (by omega) (by omega) cb cz (hb.below h) (hz.below h))
  have AAB := Lib.hid (fun W (h : Below w.heap.size w W) => above_any p q a b c d W (by omega) (by omega) ca cb (ha.below h) (hb.below h))
  have AAZ := Lib.hid (fun W (h : Below w.heap.size w W) => above_any p r a z c f W (by omega) (by omega) ca cz (ha.below h) (hz.below h))
  have SAB := Lib.hid (fun W (h : Below w.heap.size w W) => sameInts_any p q a b c d W (by omega) (by omega) ca cb (ha.below h) (hb.below h))
  have f1 : cmpN a b = 0 → decide (a = b) = true := fun h => decide_eq_true (cmpN_same _ _ h)
  have f2 : aboveP a b = true → cmpN a b = -1 := above_cmp
  have f3 : aboveP a b = true → cmpN a z < 0 → aboveP a z = false → cmpN b z = -1 := above_ahead
  have r1 := cmpN_ord.rng a b
  have r2 := cmpN_ord.rng a z
  have r3 := cmpN_ord.rng b z
  generalize cmpN a b = k1 at *
  generalize cmpN a z = k2 at *
  generalize cmpN b z = k3 at *
  generalize aboveP a b = t1 at *
  generalize aboveP a z = t2 at *
  generalize decide (a = b) = t3 at *
  clear la lb lz ca cb cz ha hb hz ka kb ea eb
  go_enter Try.func5, Try.ntmps5
  go_wp2_with (fail)
  refine (AW.out).mono ?_
  rintro e w1 ⟨rfl, hb1⟩
  have B1 := Lib.hid hb1
  clear hb1 AW
  go_wp2_with (fail)
  refine (BA.out _ B1.out).mono ?_
  rintro e w2 ⟨q1, d1, rfl, ho1, hb2⟩
  have B2 := Lib.hid (t_cat B1.out hb2)
  have O1 := Lib.hid ho1
  clear hb2 ho1 BA B1
  go_wp2_with (fail)
  refine (BB.out _ B2.out).mono ?_
  rintro e w3 ⟨q2, d2, rfl, ho2, hb3⟩
  have HB := Lib.hid (t_cat B2.out hb3)
  have ORX := Lib.hid (OR.out w3 q1 d1 q2 d2 (O1.out.far hb3).holds ho2.holds)
  clear hb3 ho2 BB B2 O1 OR
  go_wp2_with (fail)
  refine (ORX.out).mono ?_
  rintro e w' ⟨rfl, rfl⟩
  clear ORX
  rcases r1 with rfl | rfl | rfl
  · have f2' := f2
    clear f1 f2
    cases t1
    · clear f3
      repeat
        go_wp2_with (fail)
        first
          | (with_reducible (refine (CAB.out _ HB.out).mono ?_)
             rintro e w' ⟨rfl, rfl⟩)
          | (with_reducible (refine (AAB.out _ HB.out).mono ?_)
             rintro e w' ⟨rfl, hb⟩
             have HB' := Lib.hid (t_cat HB.out hb)
             clear hb HB
             have HB := HB'
             clear HB')
      go_wp2_with (fail)
      go_ret
      exact ⟨rfl, HB.out⟩
    · have f3' := f3 rfl
      clear f3
      by_cases h2 : k2 < 0
      · cases t2
        · have h3 := f3' h2 rfl
          subst h3
          clear f3'
          repeat
            go_wp2_with (fail)
            first
              | (with_reducible (refine (CAB.out _ HB.out).mono ?_)
                 rintro e w' ⟨rfl, rfl⟩)
              | (with_reducible (refine (CAZ.out _ HB.out).mono ?_)
                 rintro e w' ⟨rfl, rfl⟩)
              | (with_reducible (refine (CBZ.out _ HB.out).mono ?_)
                 rintro e w' ⟨rfl, rfl⟩)
              | (with_reducible (refine (AAB.out _ HB.out).mono ?_)
                 rintro e w' ⟨rfl, hb⟩
                 have HB' := Lib.hid (t_cat HB.out hb)
                 clear hb HB
                 have HB := HB'
                 clear HB')
              | (with_reducible (refine (AAZ.out _ HB.out).mono ?_)
                 rintro e w' ⟨rfl, hb⟩
                 have HB' := Lib.hid (t_cat HB.out hb)
                 clear hb HB
                 have HB := HB'
                 clear HB')
          go_wp2_with (fail)
          go_ret
          exact ⟨rfl, HB.out⟩
        · clear f3'
          repeat
            go_wp2_with (fail)
            first
              | (with_reducible (refine (CAB.out _ HB.out).mono ?_)
                 rintro e w' ⟨rfl, rfl⟩)
              | (with_reducible (refine (CAZ.out _ HB.out).mono ?_)
                 rintro e w' ⟨rfl, rfl⟩)
              | (with_reducible (refine (AAB.out _ HB.out).mono ?_)
                 rintro e w' ⟨rfl, hb⟩
                 have HB' := Lib.hid (t_cat HB.out hb)
                 clear hb HB
                 have HB := HB'
                 clear HB')
              | (with_reducible (refine (AAZ.out _ HB.out).mono ?_)
                 rintro e w' ⟨rfl, hb⟩
                 have HB' := Lib.hid (t_cat HB.out hb)
                 clear hb HB
                 have HB := HB'
                 clear HB')
          go_wp2_with (fail)
          go_ret
          exact ⟨rfl, HB.out⟩
      · clear f3'
        rcases r2 with rfl | rfl | rfl
        · exact absurd (by decide) h2
        · clear h2
          repeat
            go_wp2_with (fail)
            first
              | (with_reducible (refine (CAB.out _ HB.out).mono ?_)
                 rintro e w' ⟨rfl, rfl⟩)
              | (with_reducible (refine (CAZ.out _ HB.out).mono ?_)
                 rintro e w' ⟨rfl, rfl⟩)
              | (with_reducible (refine (AAB.out _ HB.out).mono ?_)
                 rintro e w' ⟨rfl, hb⟩
                 have HB' := Lib.hid (t_cat HB.out hb)
                 clear hb HB
                 have HB := HB'
                 clear HB')
          go_wp2_with (fail)
          go_ret
          exact ⟨rfl, HB.out⟩
        · clear h2
          repeat
            go_wp2_with (fail)
            first
              | (with_reducible (refine (CAB.out _ HB.out).mono ?_)
                 rintro e w' ⟨rfl, rfl⟩)
              | (with_reducible (refine (CAZ.out _ HB.out).mono ?_)
                 rintro e w' ⟨rfl, rfl⟩)
              | (with_reducible (refine (AAB.out _ HB.out).mono ?_)
                 rintro e w' ⟨rfl, hb⟩
                 have HB' := Lib.hid (t_cat HB.out hb)
                 clear hb HB
                 have HB := HB'
                 clear HB')
          go_wp2_with (fail)
          go_ret
          exact ⟨rfl, HB.out⟩
  · have hx := f1 rfl
    subst hx
    obtain rfl : t1 = false := by
      cases t1
      · rfl
      · have := f2 rfl; omega
    clear f1 f2 f3
    repeat
      go_wp2_with (fail)
      first
        | (with_reducible (refine (CAB.out _ HB.out).mono ?_)
           rintro e w' ⟨rfl, rfl⟩)
        | (with_reducible (refine (AAB.out _ HB.out).mono ?_)
           rintro e w' ⟨rfl, hb⟩
           have HB' := Lib.hid (t_cat HB.out hb)
           clear hb HB
           have HB := HB'
           clear HB')
        | (with_reducible (refine (SAB.out _ HB.out).mono ?_)
           rintro e w' ⟨rfl, hb⟩
           have HB' := Lib.hid (t_cat HB.out hb)
           clear hb HB
           have HB := HB'
           clear HB')
    go_wp2_with (fail)
    go_ret
    exact ⟨rfl, HB.out⟩
  · obtain rfl : t1 = false := by
      cases t1
      · rfl
      · have := f2 rfl; omega
    clear f1 f2 f3
    repeat
      go_wp2_with (fail)
      first
        | (with_reducible (refine (CAB.out _ HB.out).mono ?_)
           rintro e w' ⟨rfl, rfl⟩)
        | (with_reducible (refine (AAB.out _ HB.out).mono ?_)
           rintro e w' ⟨rfl, hb⟩
           have HB' := Lib.hid (t_cat HB.out hb)
           clear hb HB
           have HB := HB'
           clear HB')
    go_wp2_with (fail)
    go_ret
    exact ⟨rfl, HB.out⟩
set_option maxRecDepth 100000 in
set_option maxHeartbeats 4000000 in
theorem orders_bo (p q r : Option Addr) (c d f : Nat) (a b z : List Int) (w : World) (la : a.length * 8 ≤ 140737488355328) (lb : b.length * 8 ≤ 140737488355328) (ca : a.length ≤ c) (cb : b.length ≤ d)
    (ha : HoldsI w p a) (hb : HoldsI w q b) (ka : ¬ checkP a = 0) (kb : checkP b = 0) :
    Calls Try.prog 5 #[.slice p a.length c, .slice q b.length d, .slice r z.length f] w fun e w' => e = .returned (.bool true) ∧ Below w.heap.size w w' := by
  have AW := Lib.hid (awake12_any w)
  have BA := Lib.hid (fun W (h : Below w.heap.size w W) => bytes_bad p a c W (by omega) ca (ha.below h) ka)
  have na : (checkP a != 0) = true := by rw [bne_iff_ne]; exact ka
  have BB := Lib.hid (fun W (h : Below w.heap.size w W) => bytes_ok q b d W (by omega) cb (hb.below h) kb)
  generalize checkP a = x at *
  generalize checkP b = y at *
  clear la lb ca cb ha hb ka kb
  go_enter Try.func5, Try.ntmps5
  go_wp2_with (fail)
  refine (AW.out).mono ?_
  rintro e w1 ⟨rfl, hb1⟩
  have B1 := Lib.hid hb1
  clear hb1 AW
  go_wp2_with (fail)
  refine (BA.out _ B1.out).mono ?_
  rintro e w2 ⟨rfl, rfl⟩
  have B2 := B1
  clear BA B1
  go_wp2_with (fail)
  refine (BB.out _ B2.out).mono ?_
  rintro e w3 ⟨q2, d2, rfl, ho2, hb3⟩
  have B3 := Lib.hid (t_cat B2.out hb3)
  clear hb3 ho2 BB B2
  go_wp2_with (fail)
  go_ret
  exact ⟨rfl, B3.out⟩
set_option maxRecDepth 100000 in
set_option maxHeartbeats 4000000 in
theorem orders_bb (p q r : Option Addr) (c d f : Nat) (a b z : List Int) (w : World) (la : a.length * 8 ≤ 140737488355328) (lb : b.length * 8 ≤ 140737488355328) (ca : a.length ≤ c) (cb : b.length ≤ d)
    (ha : HoldsI w p a) (hb : HoldsI w q b) (ka : ¬ checkP a = 0) (kb : ¬ checkP b = 0) :
    Calls Try.prog 5 #[.slice p a.length c, .slice q b.length d, .slice r z.length f] w fun e w' => e = .returned (.bool true) ∧ Below w.heap.size w w' := by
  have AW := Lib.hid (awake12_any w)
  have BA := Lib.hid (fun W (h : Below w.heap.size w W) => bytes_bad p a c W (by omega) ca (ha.below h) ka)
  have na : (checkP a != 0) = true := by rw [bne_iff_ne]; exact ka
  have BB := Lib.hid (fun W (h : Below w.heap.size w W) => bytes_bad q b d W (by omega) cb (hb.below h) kb)
  have nb : (checkP b != 0) = true := by rw [bne_iff_ne]; exact kb
  generalize checkP a = x at *
  generalize checkP b = y at *
  clear la lb ca cb ha hb ka kb
  go_enter Try.func5, Try.ntmps5
  go_wp2_with (fail)
  refine (AW.out).mono ?_
  rintro e w1 ⟨rfl, hb1⟩
  have B1 := Lib.hid hb1
  clear hb1 AW
  go_wp2_with (fail)
  refine (BA.out _ B1.out).mono ?_
  rintro e w2 ⟨rfl, rfl⟩
  have B2 := B1
  clear BA B1
  go_wp2_with (fail)
  refine (BB.out _ B2.out).mono ?_
  rintro e w3 ⟨rfl, rfl⟩
  have B3 := B2
  clear BB B2
  go_wp2_with (fail)
  go_ret
  exact ⟨rfl, B3.out⟩
set_option maxRecDepth 100000 in
set_option maxHeartbeats 4000000 in
theorem orders_ob (p q r : Option Addr) (c d f : Nat) (a b z : List Int) (w : World) (la : a.length * 8 ≤ 140737488355328) (lb : b.length * 8 ≤ 140737488355328) (ca : a.length ≤ c) (cb : b.length ≤ d)
    (ha : HoldsI w p a) (hb : HoldsI w q b) (ka : checkP a = 0) (kb : ¬ checkP b = 0) :
    Calls Try.prog 5 #[.slice p a.length c, .slice q b.length d, .slice r z.length f] w fun e w' => e = .returned (.bool true) ∧ Below w.heap.size w w' := by
  have AW := Lib.hid (awake12_any w)
  have BA := Lib.hid (fun W (h : Below w.heap.size w W) => bytes_ok p a c W (by omega) ca (ha.below h) ka)
  have BB := Lib.hid (fun W (h : Below w.heap.size w W) => bytes_bad q b d W (by omega) cb (hb.below h) kb)
  have nb : (checkP b != 0) = true := by rw [bne_iff_ne]; exact kb
  generalize checkP a = x at *
  generalize checkP b = y at *
  clear la lb ca cb ha hb ka kb
  go_enter Try.func5, Try.ntmps5
  go_wp2_with (fail)
  refine (AW.out).mono ?_
  rintro e w1 ⟨rfl, hb1⟩
  have B1 := Lib.hid hb1
  clear hb1 AW
  go_wp2_with (fail)
  refine (BA.out _ B1.out).mono ?_
  rintro e w2 ⟨q1, d1, rfl, ho1, hb2⟩
  have B2 := Lib.hid (t_cat B1.out hb2)
  clear hb2 ho1 BA B1
  go_wp2_with (fail)
  refine (BB.out _ B2.out).mono ?_
  rintro e w3 ⟨rfl, rfl⟩
  have B3 := B2
  clear BB B2
  go_wp2_with (fail)
  go_ret
  exact ⟨rfl, B3.out⟩
theorem orders_walk (p q r : Option Addr) (c d f : Nat) (a b z : List Int) (w : World) (la : a.length * 8 ≤ 140737488355328) (lb : b.length * 8 ≤ 140737488355328) (lz : z.length * 8 ≤ 140737488355328) (ca : a.length ≤ c) (cb : b.length ≤ d) (cz : z.length ≤ f)
    (ha : HoldsI w p a) (hb : HoldsI w q b) (hz : HoldsI w r z) :
    Calls Try.prog 5 #[.slice p a.length c, .slice q b.length d, .slice r z.length f] w fun e w' => e = .returned (.bool true) ∧ Below w.heap.size w w' := by
  by_cases ka : checkP a = 0
  · by_cases kb : checkP b = 0
    · exact orders_ok p q r c d f a b z w la lb lz ca cb cz ha hb hz ka kb
    · exact orders_ob p q r c d f a b z w la lb ca cb ha hb ka kb
  · by_cases kb : checkP b = 0
    · exact orders_bo p q r c d f a b z w la lb ca cb ha hb ka kb
    · exact orders_bb p q r c d f a b z w la lb ca cb ha hb ka kb
end Go.Proofs.Ytaiiigknlnhdgaa
