/- Proved here: what label.roomBetween answers. -/
import Derived.Test.YtaiiigknlnhdgaaLabRoom
import Derived.Deep.RegionWith
namespace Go.Proofs.Ytaiiigknlnhdgaa
open Go.RowKit

theorem appendI_two {w : World} {B : Nat} {q : Option Addr} {c : Nat} {l : List Int} {x y : Int} (h : OwnI w B q c l) (hB : B ≤ w.heap.size) (hsz : (l.length + 2) * 8 ≤ 140737488355328) :
    ∃ q' c' w', (∀ ty, (Builtin.append_ #[22, 22] ty #[.slice q l.length c, .slice (some ⟨w.heap.size, 0, none⟩) 2 2]).run Try.prog (w.alloc (.cells #[.int .i64 x, .int .i64 y] 3)) = .ok (.slice q' (l.length + 2) c') w') ∧
      OwnI w' B q' c' (l ++ [x, y]) ∧ w.grownBy w' (Value.slice q l.length c).ownBlock := by
  have hal := (Below.refl w.heap.size w).alloc (Nat.le_refl _) (.cells #[.int .i64 x, .int .i64 y] 3)
  have hp : HoldsI (w.alloc (.cells #[.int .i64 x, .int .i64 y] 3)) (some ⟨w.heap.size, 0, none⟩) [x, y] := fun _ => by
    refine ⟨w.heap.size, 0, rfl, fun j hj => ?_⟩
    have hr := heap_alloc_new w (.cells #[.int .i64 x, .int .i64 y] 3)
    have : j = 0 ∨ j = 1 := by simp at hj; omega
    rcases this with rfl | rfl
    · rw [Nat.zero_add, cell_of_row _ _ 0 _ 3 (0, 0) hr]; rfl
    · rw [Nat.zero_add, cell_of_row _ _ 1 _ 3 (0, 0) hr]; rfl
  obtain ⟨q', c', w', h1, h2, h3⟩ := appendI_list (h.far hal) hp (fun e => by cases e) (by simp; omega) hsz
  refine ⟨q', c', w', h1, h2, ⟨h3.os, h3.tape, h3.output, by have := h3.size; simp at this; omega, fun k hk hr => (h3.block k (by simp; omega) hr).trans (hal.block k hk)⟩⟩
theorem RoomEnd {w W W' : World} {row : Option Nat} (hb : Below w.heap.size w W) (hg : W.grownBy W' row) (hr : ∀ k, row = some k → w.heap.size ≤ k) : Below w.heap.size w W' := hb.grown hg hb.size hr
theorem headD_drop_i (l : List Int) (k : Nat) : (l.drop k).headD 0 = l.getD k 0 := by
  rw [List.getD_eq_getElem?_getD, ← List.head?_drop]
  cases l.drop k <;> rfl
def RbRel (w : World) (l r : List Int) (v : Value) (wr : World) : Prop :=
  ∃ k : Nat, v = .int .i64 (k : Int) ∧ k < l.length ∧ k < r.length ∧ Hid (l.take k = r.take k ∧ lvlB (l.drop k) = true ∧ lvlB (r.drop k) = true ∧ cmpN (l.drop k) (r.drop k) = -1 ∧ Below w.heap.size w wr)
set_option maxRecDepth 100000 in
set_option maxHeartbeats 8000000 in
theorem between2_any (p q : Option Addr) (l r : List Int) (c d : Nat) (w : World) (hl : l.length ≤ 1048576) (hr : r.length ≤ 1048576) (hlc : l.length ≤ c) (__hrd : r.length ≤ d) (h1 : HoldsI w p l) (h2 : HoldsI w q r)
    (hnp : p = none → c = 0) (v1 : lvlB l = true) (v2 : lvlB r = true) (hc : cmpN l r = -1) (i1 : ∀ x ∈ l, InB x) (i2 : ∀ x ∈ r, InB x) :
    Calls Try.prog 60 #[.slice p l.length c, .slice q r.length d] w (ClonePost w (betB l r)) := by
  have hl0 : 0 < l.length := List.length_pos_iff.2 (lvl_ne v1)
  have hr0 : 0 < r.length := List.length_pos_iff.2 (lvl_ne v2)
  have H1 := Lib.hid h1
  have H2 := Lib.hid h2
  have HI := Lib.hid (And.intro i1 i2)
  have H0 := Lib.hid (And.intro v1 (And.intro v2 (And.intro hc (And.intro hl0 (And.intro hr0 (And.intro hlc hnp))))))
  have gl : (l.length : Int) ≤ 1048576 := by omega
  have gr : (r.length : Int) ≤ 1048576 := by omega
  have gc : (l.length : Int) ≤ (c : Int) := by omega
  clear hl hr hlc __hrd h1 h2 v1 v2 hc i1 i2 hnp hl0 hr0
  go_enter Try.func60, Try.ntmps60
  go_wp2_with (fail)
  go_loopw [5] (fun v wr => RbRel w l r v wr) (fun v _ => l.length - (intOf v).toNat)
  case atStart => exact ⟨0, rfl, H0.out.2.2.2.1, H0.out.2.2.2.2.1, Lib.hid ⟨by simp, by simpa using H0.out.1, by simpa using H0.out.2.1, by simpa using H0.out.2.2.1, Below.refl _ _⟩⟩
  case round =>
    obtain ⟨k, rfl, hk1, hk2, HK⟩ := hrel
    obtain ⟨b, off, rfl, hcl⟩ := (H1.out.below HK.out.2.2.2.2) (by omega)
    have c1 := hcl k hk1
    have hcl1 := Lib.hid hcl
    clear hcl
    obtain ⟨b2, off2, rfl, hcl⟩ := (H2.out.below HK.out.2.2.2.2) (by omega)
    have c2 := hcl k hk2
    have hcl2 := Lib.hid hcl
    clear hcl
    have e1 := drop_getD hk1
    have e2 := drop_getD hk2
    have n1 := HI.out.1 _ (getD_mem hk1)
    have n2 := HI.out.2 _ (getD_mem hk2)
    generalize l.getD k 0 = x at *
    generalize r.getD k 0 = y at *
    have HD := Lib.hid (And.intro e1 e2)
    have kb : (k : Int) < (l.length : Int) := by omega
    have kr : (k : Int) < (r.length : Int) := by omega
    have kc : (k : Int) ≤ (c : Int) := by omega
    have HKK := Lib.hid (And.intro hk1 hk2)
    clear e1 e2
    by_cases hxy : x = y
    · have hq : (x == y) = true := by rw [hxy]; simp
      have HE := Lib.hid hxy
      clear hxy n1 n2 hk1 hk2
      go_wp2_with (fail)
      go_region
      go_wp2_with (fail)
      go_round
      case rel =>
        obtain ⟨t0, a1, a2, a3, hb⟩ := HK.out
        have e1 := HD.out.1
        have e2 := HD.out.2
        rw [e1] at a1 a3
        rw [e2] at a2 a3
        obtain rfl := HE.out
        obtain ⟨s0, s1, s2, s3⟩ := lvl_same a1 a2 a3
        have q1 := List.length_pos_iff.2 (lvl_ne s1)
        have q2 := List.length_pos_iff.2 (lvl_ne s2)
        rw [List.length_drop] at q1 q2
        refine ⟨k + 1, by go_num, by omega, by omega, Lib.hid ⟨?_, s1, s2, s3, hb.drew⟩⟩
        have f1 : l.take (k + 1) = l.take k ++ [x] := by
          rw [List.take_add_one, List.getElem?_eq_getElem HKK.out.1]
          have : l[k]'HKK.out.1 = x := by
            have := List.drop_eq_getElem_cons HKK.out.1
            rw [e1] at this
            injection this with h _
            exact h.symm
          rw [this]; rfl
        have f2 : r.take (k + 1) = r.take k ++ [x] := by
          rw [List.take_add_one, List.getElem?_eq_getElem HKK.out.2]
          have : r[k]'HKK.out.2 = x := by
            have := List.drop_eq_getElem_cons HKK.out.2
            rw [e2] at this
            injection this with h _
            exact h.symm
          rw [this]; rfl
        rw [f1, f2, t0]
      case measure => have := HKK.out.1; simp [intOf]; omega
    · have hq : (x == y) = false := by rw [beq_eq_false_iff_ne]; exact hxy
      obtain ⟨T, hT⟩ : ∃ T, l.take k = T := ⟨_, rfl⟩
      have htl : T.length = k := by rw [← hT, List.length_take]; omega
      have hbt : betB l r = T ++ betB (x :: l.drop (k + 1)) (y :: r.drop (k + 1)) := by
        rw [bet_drop l r k HK.out.1 (by omega) (by omega), HD.out.1, HD.out.2, hT]
      have hlr : x < y := by
        have a3 := HK.out.2.2.2.1
        rw [HD.out.1, HD.out.2] at a3
        rcases cmpN_lt_head a3 with h | h
        · exact h
        · exact absurd h hxy
      have hv1 := HK.out.2.1
      have hv2 := HK.out.2.2.1
      rw [HD.out.1] at hv1
      rw [HD.out.2] at hv2
      have CL := Lib.hid (fun W (hb : Below w.heap.size w W) => clone2_any (some ⟨b, off, none⟩) T c W (by rw [← hT]; exact (H1.out.below hb).take k) (fun e => by cases e) (by rw [htl]; omega))
      rw [htl] at CL
      have HB := Lib.hid HK.out.2.2.2.2
      have HN := Lib.hid (And.intro hxy (And.intro n1 (And.intro n2 (And.intro htl (And.intro hbt (And.intro hlr (And.intro hv1 hv2)))))))
      have HW := Lib.hid (fun W (hb : Below w.heap.size w W) => And.intro (H1.out.below hb) (H2.out.below hb))
      have HIN := Lib.hid HI.out
      clear hxy n1 n2 hk1 hk2 hT hbt hlr hv1 hv2 HK HI H0 H1 H2
      go_wp2_with (fail)
      go_region
      go_wp2_with (fail)
      obtain ⟨W2, hW2⟩ : ∃ W, wr.drew = W := ⟨_, rfl⟩
      have hbW : Below w.heap.size w W2 := by rw [← hW2]; exact HB.out.drew
      have d1 : W2.cell? ⟨b, off + k, none⟩ = some (.int .i64 x) := by rw [← hW2]; exact c1
      have d2 : W2.cell? ⟨b2, off2 + k, none⟩ = some (.int .i64 y) := by rw [← hW2]; exact c2
      rw [hW2]
      have d1' : W2.drew.cell? ⟨b, off + k, none⟩ = some (.int .i64 x) := d1
      have d2' : W2.drew.cell? ⟨b2, off2 + k, none⟩ = some (.int .i64 y) := d2
      have CX := Lib.hid (CL.out W2.drew hbW.drew)
      have HBW := Lib.hid hbW
      clear hW2 hbW c1 c2 HB CL
      go_region_with (go_at_call 43; refine (CX.out).mono ?_; rintro e w3 ⟨q3, d3, rfl, ho, hb⟩; have k1 := t_cell hb d1'; have k2 := t_cell hb d2')
      all_goals
        have hB3 := t_cat HBW.out.drew hb
        have ho3 := ho.base (B' := w.heap.size) HBW.out.size
        have hro := World.ownsRow.lt ho3.1
        rw [htl] at hro
        have HO := Lib.hid (And.intro ho3 (And.intro hB3 hro))
        clear ho hb k1 k2 d1 d2 d1' d2' hB3 ho3 hro CX
        obtain ⟨z, hz⟩ : ∃ z, oddUp x = z := ⟨_, rfl⟩
        have OA := Lib.hid (fun W => oddAbove_any x HN.out.2.1 W)
        rw [hz] at OA
        have HZ := Lib.hid hz
        clear hz
        by_cases w1 : z < y
        · obtain ⟨g, cap, w4, hrun, hown, hgr⟩ := appendI_one (x := z) HO.out.1 HO.out.2.1.size (by rw [htl]; omega)
          rw [htl] at hrun hgr
          have HA := Lib.hid hrun
          have HG := Lib.hid (And.intro hown hgr)
          have HW1 := Lib.hid w1
          clear hrun hown hgr
          go_wp2_with (fail)
          refine (OA.out _).mono ?_
          rintro e w' ⟨rfl, rfl⟩
          go_wp2_with (fail)
          refine (OA.out _).mono ?_
          rintro e w' ⟨rfl, rfl⟩
          go_wp2_with (at_builtin; refine t_append_eq rfl _ _ _ rfl _ _ _ _ rfl rfl HA.out ?_)
          go_ret
          have e : betB l r = T ++ [z] := by
            rw [HN.out.2.2.2.2.1, betB, if_neg HN.out.1, HZ.out, if_pos HW1.out]
          rw [e]
          exact ⟨_, cap, by rw [List.length_append, htl]; rfl, HG.out.1, RoomEnd HO.out.2.1 HG.out.2 (fun j e => (HO.out.2.2 j e).1)⟩
        · have HW1 := Lib.hid w1
          have xb := HN.out.2.1.2
          have xa := HN.out.2.1.1
          by_cases w2 : y = x + 2
          · have t2 : (y == x + 2) = true := by rw [beq_iff_eq]; exact w2
            obtain ⟨q4, cap, w4, hrun, hown, hgr⟩ := appendI_two (x := x + 1) (y := 1) HO.out.1 HO.out.2.1.size (by rw [htl]; omega)
            rw [htl] at hrun hgr
            have HA := Lib.hid hrun
            have HG := Lib.hid (And.intro hown hgr)
            have HW2 := Lib.hid w2
            clear hrun hown hgr w2
            go_wp2_with (fail)
            refine (OA.out _).mono ?_
            rintro e w' ⟨rfl, rfl⟩
            go_wp2_with (at_builtin; refine t_append_eq rfl _ _ _ rfl _ _ _ _ rfl rfl HA.out ?_)
            go_ret
            have e : betB l r = T ++ [x + 1, 1] := by
              rw [HN.out.2.2.2.2.1, betB, if_neg HN.out.1, HZ.out, if_neg (show ¬ z < y by have := HW1.out; omega), if_pos HW2.out]
            rw [e]
            exact ⟨q4, cap, by rw [List.length_append, htl]; rfl, HG.out.1, RoomEnd HO.out.2.1 HG.out.2 (fun j e => (HO.out.2.2 j e).1)⟩
          · have t2 : (y == x + 2) = false := by rw [beq_eq_false_iff_ne]; exact w2
            have OD := Lib.hid (fun W => isOdd_any x W)
            have HW2 := Lib.hid w2
            clear w2
            cases hox : oddI x
            · rw [hox] at OD
              have htail := lvl_even HN.out.2.2.2.2.2.2.1 hox
              have hk9 : k + 1 < l.length := by
                have := List.length_pos_iff.2 (lvl_ne htail)
                rw [List.length_drop] at this; omega
              obtain ⟨b', off', e', hc'⟩ := (HW.out w3 HO.out.2.1).1 (by omega)
              injection e' with e'
              injection e' with e1 e2 _
              subst e1 e2
              have cc := hc' (k + 1) hk9
              have hin := HIN.out.1 _ (getD_mem hk9)
              obtain ⟨u, hu⟩ : ∃ u, l.getD (k + 1) 0 = u := ⟨_, rfl⟩
              rw [hu] at cc hin
              have OU := Lib.hid (fun W => oddAbove_any u hin W)
              obtain ⟨q4, cap, w4, hrun, hown, hgr⟩ := appendI_two (x := x) (y := oddUp u) HO.out.1 HO.out.2.1.size (by rw [htl]; omega)
              rw [htl] at hrun hgr
              obtain ⟨v, hv⟩ : ∃ v, oddUp u = v := ⟨_, rfl⟩
              rw [hv] at OU hrun hown
              have HA := Lib.hid hrun
              have HG := Lib.hid (And.intro hown hgr)
              have HU := Lib.hid (And.intro hu (And.intro hv hox))
              have gk : (k : Int) + 1 < (l.length : Int) := by omega
              clear hrun hown hgr hu hv hin hc' htail hox
              go_wp2_with (fail)
              refine (OA.out _).mono ?_
              rintro e w' ⟨rfl, rfl⟩
              go_wp2_with (fail)
              refine (OD.out _).mono ?_
              rintro e w' ⟨rfl, rfl⟩
              go_wp2_with (fail)
              refine (OU.out _).mono ?_
              rintro e w' ⟨rfl, rfl⟩
              go_wp2_with (at_builtin; refine t_append_eq rfl _ _ _ rfl _ _ _ _ rfl rfl HA.out ?_)
              go_ret
              have e : betB l r = T ++ [x, v] := by
                rw [HN.out.2.2.2.2.1, betB, if_neg HN.out.1, HZ.out, if_neg (show ¬ z < y by have := HW1.out; omega), if_neg HW2.out, HU.out.2.2, headD_drop_i l, HU.out.1, HU.out.2.1]; rfl
              rw [e]
              exact ⟨q4, cap, by rw [List.length_append, htl]; rfl, HG.out.1, RoomEnd HO.out.2.1 HG.out.2 (fun j e => (HO.out.2.2 j e).1)⟩
            · rw [hox] at OD
              have hyy : y = x + 1 := by
                have h1 := HW1.out
                have h2 := HZ.out
                have h3 := HW2.out
                have h4 := HN.out.2.2.2.2.2.1
                unfold oddUp at h2; omega
              have hoy : oddI y = false := by rw [oddI_not]; rw [oddI_iff] at hox; omega
              have htail := lvl_even HN.out.2.2.2.2.2.2.2 hoy
              have hk9 : k + 1 < r.length := by
                have := List.length_pos_iff.2 (lvl_ne htail)
                rw [List.length_drop] at this; omega
              obtain ⟨b', off', e', hc'⟩ := (HW.out w3 HO.out.2.1).2 (by omega)
              injection e' with e'
              injection e' with e1 e2 _
              subst e1 e2
              have cc := hc' (k + 1) hk9
              have hin := HIN.out.2 _ (getD_mem hk9)
              obtain ⟨u, hu⟩ : ∃ u, r.getD (k + 1) 0 = u := ⟨_, rfl⟩
              rw [hu] at cc hin
              have OU := Lib.hid (fun W => oddBelow_any u hin W)
              obtain ⟨q4, cap, w4, hrun, hown, hgr⟩ := appendI_two (x := y) (y := oddDn u) HO.out.1 HO.out.2.1.size (by rw [htl]; omega)
              rw [htl] at hrun hgr
              obtain ⟨v, hv⟩ : ∃ v, oddDn u = v := ⟨_, rfl⟩
              rw [hv] at OU hrun hown
              have HA := Lib.hid hrun
              have HG := Lib.hid (And.intro hown hgr)
              have HU := Lib.hid (And.intro hu (And.intro hv hox))
              have gk : (k : Int) + 1 < (r.length : Int) := by omega
              clear hrun hown hgr hu hv hin hc' htail hox hoy hyy
              go_wp2_with (fail)
              refine (OA.out _).mono ?_
              rintro e w' ⟨rfl, rfl⟩
              go_wp2_with (fail)
              refine (OD.out _).mono ?_
              rintro e w' ⟨rfl, rfl⟩
              go_wp2_with (fail)
              refine (OU.out _).mono ?_
              rintro e w' ⟨rfl, rfl⟩
              go_wp2_with (at_builtin; refine t_append_eq rfl _ _ _ rfl _ _ _ _ rfl rfl HA.out ?_)
              go_ret
              have e : betB l r = T ++ [y, v] := by
                rw [HN.out.2.2.2.2.1, betB, if_neg HN.out.1, HZ.out, if_neg (show ¬ z < y by have := HW1.out; omega), if_neg HW2.out, HU.out.2.2, headD_drop_i r, HU.out.1, HU.out.2.1]; rfl
              rw [e]
              exact ⟨q4, cap, by rw [List.length_append, htl]; rfl, HG.out.1, RoomEnd HO.out.2.1 HG.out.2 (fun j e => (HO.out.2.2 j e).1)⟩
end Go.Proofs.Ytaiiigknlnhdgaa
