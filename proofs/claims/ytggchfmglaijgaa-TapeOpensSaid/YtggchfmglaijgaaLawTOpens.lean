/- Proved here: the statement TapeOpens, walked: it answers true of all bytes and numbers, in every world. -/
import Derived.Test.YtggchfmglaijgaaTapeAwake
import Derived.Test.YtggchfmglaijgaaTapeOpenArg
import Derived.Test.YtggchfmglaijgaaTapeFilled
import Derived.Test.YtggchfmglaijgaaTapeAll
namespace Go.Proofs.Ytggchfmglaijgaa
open Go.RowKit

set_option maxRecDepth 100000 in
set_option maxHeartbeats 32000000 in
theorem tapeOpens_any (p0 : Option Addr) (s : ByteArray) (c0 : Nat) (loI hiI genI : Int) (w : World) (bl1 : -9223372036854775808 ≤ loI ∧ loI ≤ 9223372036854775807) (bh1 : -9223372036854775808 ≤ hiI ∧ hiI ≤ 9223372036854775807) (hs9 : s.size ≤ 140737488351232) (hsc : s.size ≤ c0) (hp0 : HoldsB w p0 s) :
    Calls Try.prog 5 #[.slice p0 s.size c0, .int .i64 loI, .int .i64 hiI, .int .i64 genI] w fun e w' => e = .returned (.bool true) ∧ Below w.heap.size w w' := by
  have AW := Lib.hid (awake14_any w)
  have HP := Lib.hid (And.intro hs9 (And.intro hsc hp0))
  obtain ⟨sn, hsn⟩ : ∃ sn, s.size = sn := ⟨_, rfl⟩
  have HN := Lib.hid hsn
  rw [hsn]
  clear hs9 hsc hp0 hsn
  go_enter Try.func5, Try.ntmps5
  go_wp2_with (fail)
  with_reducible (refine AW.out.mono ?_)
  rintro e W0 ⟨rfl, hb⟩
  have B0 := Lib.hid hb
  have SE : Calls Try.prog 20 #[.slice p0 sn c0, .int .i64 100] W0 _ := sectors14_any p0 s sn c0 100 W0 HN.out (by have := HP.out.1; have := HN.out; omega) (by have := HP.out.2.1; have := HN.out; omega) (HP.out.2.2.below hb) (by decide)
  have hT : (sectorsP (bl s) 100).length ≤ 100 := by unfold sectorsP; rw [List.length_map, List.length_range]; omega
  have h64 : ∀ x ∈ sectorsP (bl s) 100, x.length = 64 := fun x hx => by
    unfold sectorsP at hx
    obtain ⟨i, _, rfl⟩ := List.mem_map.1 hx
    exact partS_length _ _
  generalize sectorsP (bl s) 100 = A at *
  obtain ⟨n, hn⟩ : ∃ n, A.length = n := ⟨_, rfl⟩
  rw [hn] at SE hT
  have HSE := Lib.hid SE
  have HA := Lib.hid (And.intro hn (And.intro hT h64))
  have hnI : (n : Int) ≤ 100 := by omega
  clear hb AW SE hT h64 hn
  go_wp2_with (fail)
  with_reducible (refine HSE.out.mono ?_)
  rintro e W1 ⟨q1, k1, rfl, gi1, b1⟩
  have H1 := Lib.hid (And.intro gi1 b1)
  clear gi1 b1 HSE
  by_cases hn0 : n = 0
  · subst hn0
    have ON := Lib.hid (open_nil loI hiI genI W1)
    go_wp2_with (fail)
    all_goals try (exfalso; omega; done)
    with_reducible (refine ON.out.mono ?_)
    rintro e W' ⟨rfl, rfl⟩
    go_wp2_with (fail)
    all_goals try (exfalso; omega; done)
    go_ret
    exact ⟨rfl, B0.out.trans (H1.out.2.mono B0.out.size)⟩
  · have hml : (A.map ofL).length = n := by rw [List.length_map, HA.out.1]
    have FI := filled14_any q1 (A.map ofL) n k1 (Since W0) W1 hml (by omega) (by have := HA.out.2.1; omega) H1.out.1 (fun x hx => by
      obtain ⟨y, hy, rfl⟩ := List.mem_map.1 hx
      rw [ofL_size]; exact HA.out.2.2 y hy)
    have HFI := Lib.hid FI
    have hn0I : ¬ (n : Int) = 0 := by omega
    have HML := Lib.hid hml
    clear FI hml
    go_wp2_with (fail)
    all_goals try (exfalso; omega; done)
    with_reducible (refine HFI.out.mono ?_)
    rintro e W2 ⟨G, F, M, rfl, d2, st2, s2, l2, n2'⟩
    rw [HML.out] at d2 s2 l2
    have HST := Lib.hid (steps_any W2 F G n M d2.drum)
    have HLO := Lib.hid (loose_any W2 F G n M d2.drum)
    have H2 := Lib.hid (And.intro d2 (And.intro st2 (And.intro s2 (And.intro l2 n2'))))
    clear d2 st2 s2 l2 n2' HFI
    go_wp2_with (fail)
    all_goals try (exfalso; omega; done)
    with_reducible (refine HST.out.mono ?_)
    rintro e W' ⟨rfl, rfl⟩
    go_wp2_with (fail)
    all_goals try (exfalso; omega; done)
    with_reducible (refine HLO.out.mono ?_)
    rintro e W' ⟨rfl, rfl⟩
    have HB2 := Lib.hid (B0.out.trans ((H1.out.2.trans (H2.out.1.below.mono H1.out.2.size)).mono B0.out.size))
    by_cases h1 : loI < 0
    · have OA := Lib.hid (open_arg W2 F G n M H2.out.1.drum (by have := HA.out.2.1; omega) loI hiI genI bl1 bh1 (by omega))
      go_wp2_with (fail)
      all_goals try (exfalso; omega; done)
      with_reducible (refine OA.out.mono ?_)
      rintro e W' ⟨rfl, rfl⟩
      go_wp2_with (fail)
      all_goals try (exfalso; omega; done)
      with_reducible (refine HST.out.mono ?_)
      rintro e W' ⟨rfl, rfl⟩
      go_wp2_with (fail)
      all_goals try (exfalso; omega; done)
      go_ret
      exact ⟨rfl, HB2.out⟩
    by_cases h2 : (n : Int) < hiI
    · have OA := Lib.hid (open_arg W2 F G n M H2.out.1.drum (by have := HA.out.2.1; omega) loI hiI genI bl1 bh1 (by omega))
      go_wp2_with (fail)
      all_goals try (exfalso; omega; done)
      with_reducible (refine OA.out.mono ?_)
      rintro e W' ⟨rfl, rfl⟩
      go_wp2_with (fail)
      all_goals try (exfalso; omega; done)
      with_reducible (refine HST.out.mono ?_)
      rintro e W' ⟨rfl, rfl⟩
      go_wp2_with (fail)
      all_goals try (exfalso; omega; done)
      go_ret
      exact ⟨rfl, HB2.out⟩
    by_cases h3 : hiI ≤ loI
    · have OA := Lib.hid (open_arg W2 F G n M H2.out.1.drum (by have := HA.out.2.1; omega) loI hiI genI bl1 bh1 (by omega))
      go_wp2_with (fail)
      all_goals try (exfalso; omega; done)
      with_reducible (refine OA.out.mono ?_)
      rintro e W' ⟨rfl, rfl⟩
      go_wp2_with (fail)
      all_goals try (exfalso; omega; done)
      with_reducible (refine HST.out.mono ?_)
      rintro e W' ⟨rfl, rfl⟩
      go_wp2_with (fail)
      all_goals try (exfalso; omega; done)
      go_ret
      exact ⟨rfl, HB2.out⟩
    by_cases h4 : genI < 1
    · have OA := Lib.hid (open_arg W2 F G n M H2.out.1.drum (by have := HA.out.2.1; omega) loI hiI genI bl1 bh1 (by omega))
      go_wp2_with (fail)
      all_goals try (exfalso; omega; done)
      with_reducible (refine OA.out.mono ?_)
      rintro e W' ⟨rfl, rfl⟩
      go_wp2_with (fail)
      all_goals try (exfalso; omega; done)
      with_reducible (refine HST.out.mono ?_)
      rintro e W' ⟨rfl, rfl⟩
      go_wp2_with (fail)
      all_goals try (exfalso; omega; done)
      go_ret
      exact ⟨rfl, HB2.out⟩
    by_cases h5 : 4294967295 < genI
    · have OA := Lib.hid (open_arg W2 F G n M H2.out.1.drum (by have := HA.out.2.1; omega) loI hiI genI bl1 bh1 (by omega))
      go_wp2_with (fail)
      all_goals try (exfalso; omega; done)
      with_reducible (refine OA.out.mono ?_)
      rintro e W' ⟨rfl, rfl⟩
      go_wp2_with (fail)
      all_goals try (exfalso; omega; done)
      with_reducible (refine HST.out.mono ?_)
      rintro e W' ⟨rfl, rfl⟩
      go_wp2_with (fail)
      all_goals try (exfalso; omega; done)
      go_ret
      exact ⟨rfl, HB2.out⟩
    obtain ⟨lo, rfl⟩ : ∃ n : Nat, loI = (n : Int) := ⟨loI.toNat, by omega⟩
    obtain ⟨hi, rfl⟩ : ∃ n : Nat, hiI = (n : Int) := ⟨hiI.toNat, by omega⟩
    obtain ⟨gen, rfl⟩ : ∃ n : Nat, genI = (n : Int) := ⟨genI.toNat, by omega⟩
    have HQ := Lib.hid (show hi ≤ n ∧ lo < hi ∧ 1 ≤ gen ∧ gen ≤ 4294967295 from ⟨by omega, by omega, by omega, by omega⟩)
    have j3 : decide ((lo : Int) < 0) = false := decide_eq_false h1
    have j4 : decide (n < hi) = false := decide_eq_false (by omega)
    have j5 : decide (hi ≤ lo) = false := decide_eq_false (by omega)
    have j6 : decide ((gen : Int) < 1) = false := decide_eq_false h4
    have j7 : decide ((4294967295 : Int) < (gen : Int)) = false := decide_eq_false h5
    have OP := open_ok H2.out.1 H2.out.2.1 (by rw [H2.out.2.2.1]; have := HA.out.2.1; omega) (by rw [H2.out.2.2.2.1]; have := HA.out.2.1; omega) lo hi gen HQ.out.2.1 HQ.out.1 (by have := HA.out.2.1; omega) HQ.out.2.2.1 HQ.out.2.2.2
    rw [log_part A M H2.out.2.2.2.2 lo (hi - lo)] at OP
    obtain ⟨L, hL⟩ : ∃ L, (A.drop lo).take (hi - lo) = L := ⟨_, rfl⟩
    rw [hL] at OP
    have hLl : L.length = hi - lo := by rw [← hL, List.length_take, List.length_drop, HA.out.1]; have := HQ.out; omega
    have hLm : ∀ x ∈ L, x.length = 64 := fun x hx => HA.out.2.2 x (List.mem_of_mem_drop (List.mem_of_mem_take (by rw [hL]; exact hx)))
    have hus : (readsM gen newR L).used ≤ hi - lo := by
      have := reads_used gen L newR (Nat.le_refl _)
      rw [hLl] at this
      have e : newR.taken = 0 := rfl
      omega
    have hco : (readsM gen newR L).groups.length ≤ 100 := by
      have := reads_count gen L newR (Nat.le_refl _)
      rw [hLl] at this
      have e : newR.taken = 0 := rfl
      have := HQ.out
      have := HA.out.2.1
      omega
    obtain ⟨Rf, hRf⟩ : ∃ Rf, readsM gen newR L = Rf := ⟨_, rfl⟩
    rw [hRf] at OP hus hco
    have HLL := Lib.hid (And.intro hL (And.intro hLl (And.intro hLm (And.intro hus hRf))))
    have HCO := Lib.hid hco
    have HOP := Lib.hid OP
    clear OP hL hLl hLm hus hRf hco
    go_wp2_with (fail)
    all_goals try (exfalso; omega; done)
    refine HOP.out.mono ?_
    rintro e W4 ⟨t, gv, jo, Y, rfl, hj, d4, t4, n4, wt4, ft4, gin4, hY4⟩
    have gin4c := gin4
    obtain ⟨VsG, gG, -⟩ := gin4
    obtain ⟨ga, gc, rfl, -⟩ := owns_form gG
    have hform : ∃ gs, q1 = some ⟨gs, 0, none⟩ ∧ n ≤ k1 := by
      obtain ⟨Vs1, a1, -⟩ := H1.out.1
      rw [HML.out] at a1
      rcases a1.2 with ⟨-, h0⟩ | ⟨g', cap', cur', e, -, -, hcp, -⟩
      · omega
      · injection e with e1 e2 e3
        exact ⟨g', e1, by omega⟩
    obtain ⟨gs, rfl, hnk⟩ := hform
    have RG := rgroups_any gen gs lo (hi - lo) (k1 - lo) L W4 HLL.out.2.1 (by have := HQ.out; have := HA.out.2.1; omega) HLL.out.2.2.1 HQ.out.2.2.2 (by
      have h := (H1.out.1.far d4.below).rowsG (lo := lo) (hi := hi) HA.out.1 HA.out.2.2 HQ.out.1
      rwa [HLL.out.1] at h) (by have := HQ.out; omega)
    unfold RefPost at RG
    rw [HLL.out.2.2.2.2] at RG
    have HRG := Lib.hid RG
    have H4 := Lib.hid (And.intro hj (And.intro d4 (And.intro n4 gin4c)))
    have hkI : (hi : Int) ≤ (k1 : Int) := by have := HQ.out; omega
    have hkl : ¬ k1 = lo := by have := HQ.out; omega
    have hlh : (lo : Int) ≤ (hi : Int) := by have := HQ.out; omega
    clear RG hj d4 t4 n4 wt4 ft4 hY4 gin4c gG hnk HOP
    go_wp2_with (fail)
    all_goals try (exfalso; omega; done)
    refine HRG.out.mono ?_
    rintro e W5 ⟨q5, m5, k5, rfl, hm5, gi5, b5⟩
    subst hm5
    have SM := same14_any ga q5 Rf.groups Rf.groups Rf.groups.length Rf.groups.length gc k5 W5 rfl rfl (by have := HCO.out; omega) (H4.out.2.2.2.far b5).holds gi5.holds
    rw [show decide (Rf.groups = Rf.groups) = true from decide_eq_true rfl] at SM
    have HSM := Lib.hid SM
    have H5 := Lib.hid (And.intro (H4.out.2.1.on b5) (And.intro ((b5.block t (obj_lt H4.out.2.2.1)).trans H4.out.2.2.1) trivial))
    clear SM gi5 b5 HRG
    go_wp2_with (fail)
    all_goals try (exfalso; omega; done)
    with_reducible (refine HSM.out.mono ?_)
    rintro e W6 ⟨rfl, -, b6⟩
    have n6 := (b6.block t (obj_lt H5.out.2.1)).trans H5.out.2.1
    have H6 := Lib.hid (And.intro (H5.out.1.on b6) n6)
    have GR := Lib.hid (groups_any W6 t G lo hi gen Rf.groups.length Rf.used false n6)
    clear n6 b6 HSM
    go_wp2_with (fail)
    all_goals try (exfalso; omega; done)
    with_reducible (refine GR.out.mono ?_)
    rintro e W' ⟨rfl, rfl⟩
    have hus := HLL.out.2.2.2.1
    have FR0 := free_any W6 t G lo hi gen Rf.groups.length Rf.used false H6.out.2 (by have := HQ.out; have := HA.out.2.1; omega) (by have := HQ.out; omega)
    rw [show ((hi - lo - Rf.used : Nat) : Int) = (hi : Int) - (lo : Int) - (Rf.used : Int) by omega] at FR0
    have FR := Lib.hid FR0
    have husI : (Rf.used : Int) ≤ (hi : Int) - (lo : Int) := by omega
    clear FR0 hus
    go_wp2_with (fail)
    all_goals try (exfalso; omega; done)
    with_reducible (refine FR.out.mono ?_)
    rintro e W7 ⟨rfl, m', hm'⟩
    have b7 : Below W6.heap.size W6 W7 := by rw [hm']; exact below_drewN (Below.refl _ _) m'
    have d7 := H6.out.1.on b7
    have ST2 := steps_any W7 F G n (M.bump jo) d7.drum
    have hs2 := H2.out.2.2.1
    have hjo := H4.out.1
    rw [show ((M.bump jo).steps : Int) = (n : Int) + (jo : Int) by show ((M.steps + jo : Nat) : Int) = _; omega] at ST2
    have hs2I : (M.steps : Int) = (n : Int) := by omega
    have hjI : (jo : Int) ≤ (hi : Int) - (lo : Int) := by have := HQ.out; omega
    have LO2 := loose_any W7 F G n (M.bump jo) d7.drum
    rw [show (M.bump jo).loose = M.loose from rfl] at LO2
    have AL := all14_any d7 (H2.out.2.1.bump jo) (by show M.steps + jo ≤ _; have := HQ.out; have := HA.out.2.1; omega) (by show M.loose.length ≤ _; rw [H2.out.2.2.2.1]; have := HA.out.2.1; omega) (by have := HA.out.2.1; omega)
    rw [show (M.bump jo).now = A.map ofL from H2.out.2.2.2.2] at AL
    have HST2 := Lib.hid ST2
    have HLO2 := Lib.hid LO2
    have HAL := Lib.hid AL
    have H7 := Lib.hid d7
    clear ST2 LO2 AL d7 b7 hm' hs2 hjo
    go_wp2_with (fail)
    all_goals try (exfalso; omega; done)
    with_reducible (refine HST2.out.mono ?_)
    rintro e W' ⟨rfl, rfl⟩
    go_wp2_with (fail)
    all_goals try (exfalso; omega; done)
    with_reducible (refine HLO2.out.mono ?_)
    rintro e W' ⟨rfl, rfl⟩
    go_wp2_with (fail)
    all_goals try (exfalso; omega; done)
    with_reducible (refine HAL.out.mono ?_)
    rintro e W8 ⟨q8, k8, rfl, d8, t8, g8⟩
    have SM2 := same14_any q8 (some ⟨gs, 0, none⟩) (A.map ofL) (A.map ofL) n n k8 k1 W8 HML.out HML.out (by have := HA.out.2.1; omega) (by
      have h1 := g8
      rw [← HML.out] at h1
      exact h1.holds) (by
      have h1 := H1.out.1.far d8.below
      rw [← HML.out] at h1
      exact h1.holds)
    rw [show decide (A.map ofL = A.map ofL) = true from decide_eq_true rfl] at SM2
    have HSM2 := Lib.hid SM2
    have HB8 := Lib.hid (B0.out.trans ((H1.out.2.trans (d8.below.mono H1.out.2.size)).mono B0.out.size))
    clear SM2 d8 t8 g8 HAL
    go_wp2_with (fail)
    all_goals try (exfalso; omega; done)
    with_reducible (refine HSM2.out.mono ?_)
    rintro e W9 ⟨rfl, -, b9⟩
    have HB9 := Lib.hid (cat_b HB8.out b9)
    clear b9
    go_wp2_with (fail)
    go_ret
    exact ⟨rfl, HB9.out⟩
end Go.Proofs.Ytggchfmglaijgaa
