/- Proved here: the statement TapeSums, walked: it answers true of all bytes, every place and byte, in every world. -/
import Derived.Test.YtggchfmglaijgaaTapeAwake
import Derived.Test.YtggchfmglaijgaaByteTwin
import Derived.Test.YtggchfmglaijgaaRefOct
import Derived.Test.YtggchfmglaijgaaByteBits
namespace Go.Proofs.Ytggchfmglaijgaa
open Go.RowKit

/-- One byte of some bytes is another: the sum is another. -/
theorem sumN_set (l : List UInt8) (k : Nat) (hk : k < l.length) (x : UInt8) (h : x ≠ l[k]) : sumN (l.set k x) ≠ sumN l := fun e => by
  have e3 : l = l.take k ++ l[k] :: l.drop (k + 1) := by rw [← List.drop_eq_getElem_cons hk, List.take_append_drop]
  have e4 : l.set k x = l.take k ++ x :: l.drop (k + 1) := List.set_eq_take_append_cons_drop.trans (by rw [if_pos hk])
  rw [e4] at e
  conv at e => rhs; rw [e3]
  exact h (sumN_one _ _ e)
set_option maxRecDepth 100000 in
set_option maxHeartbeats 8000000 in
theorem tapeSums_any (p : Option Addr) (s : ByteArray) (c : Nat) (at_ : Int) (y : UInt8) (w : World) (hs : s.size ≤ 140737488355000) (hp : HoldsB w p s) (hpn : p = none → c = 0) :
    Calls Try.prog 4 #[.slice p s.size c, .int .i64 at_, .int .u8 (y.toNat : Int)] w fun e w' => e = .returned (.bool true) ∧ Below w.heap.size w w' := by
  have AW := Lib.hid (awake14_any w)
  have HP := Lib.hid (And.intro hs (And.intro hp hpn))
  obtain ⟨m, hm⟩ : ∃ m, s.size = m := ⟨_, rfl⟩
  have HM := Lib.hid hm
  obtain ⟨U, hU⟩ : ∃ U : Nat, IntKind.u64.wrap at_ = (U : Int) := ⟨(IntKind.u64.wrap at_).toNat, by rw [IntKind.wrap_u64]; omega⟩
  rw [hm]
  have hyz : ((y.toNat : Int) == 0) = decide (y = 0) := by
    have hy := UInt8.toNat_lt y
    by_cases q : y = 0
    · subst q; rfl
    · rw [decide_eq_false q, beq_eq_false_iff_ne]
      intro e
      apply q
      apply UInt8.toNat.inj
      have : (0 : UInt8).toNat = 0 := rfl
      omega
  have HYZ := Lib.hid hyz
  have hmm : (m : Int) ≤ 140737488355000 := by omega
  clear hm hp hs hpn hyz
  go_enter Try.func4, Try.ntmps4
  go_wp2_with (fail)
  refine AW.out.mono ?_
  rintro e W0 ⟨rfl, hb⟩
  have B0 := Lib.hid hb
  have S1 := Lib.hid (sum_any p s m c W0 HM.out (by have := HP.out.1; rw [HM.out] at this; omega) (HP.out.2.1.below hb))
  have S2 := Lib.hid (rsum_any p s m c W0 HM.out (by have := HP.out.1; rw [HM.out] at this; omega) (HP.out.2.1.below hb))
  have TW := twin_any p s c W0 HP.out.1 (HP.out.2.1.below hb) HP.out.2.2
  rw [HM.out] at TW
  have TW1 := Lib.hid TW
  obtain ⟨X, hX⟩ : ∃ X, sumN (bl s) = X := ⟨_, rfl⟩
  have HX := Lib.hid hX
  rw [hX] at S1 S2
  clear hb AW TW hX
  go_wp2_with (fail)
  refine S1.out.mono ?_
  rintro e w' ⟨rfl, rfl⟩
  go_wp2_with (fail)
  refine S2.out.mono ?_
  rintro e w' ⟨rfl, rfl⟩
  by_cases h0 : m = 0
  · subst h0
    go_wp2_with (fail)
    go_ret
    exact ⟨rfl, B0.out⟩
  · have t0 : ((m : Int) == 0) = false := by rw [beq_eq_false_iff_ne]; omega
    by_cases hy : y = 0
    · have hy0 : ((y.toNat : Int) == 0) = true := by rw [HYZ.out]; exact decide_eq_true hy
      have HQ := Lib.hid hy
      clear hy
      go_wp2_with (fail)
      all_goals try (exfalso; omega; done)
      all_goals
        go_ret
        exact ⟨rfl, B0.out⟩
    · have hy0 : ((y.toNat : Int) == 0) = false := by rw [HYZ.out]; exact decide_eq_false hy
      have hy1 : ¬ (y.toNat : Int) = 0 := by have := hy0; rwa [beq_eq_false_iff_ne] at this
      have HQ := Lib.hid hy
      clear hy
      go_wp2_with (fail)
      all_goals try (exfalso; omega; done)
      refine TW1.out.mono ?_
      rintro e W1 ⟨g, cap, rfl, ho, hb1⟩
      rw [HM.out]
      have hlt : U % m < m := Nat.mod_lt _ (by omega)
      obtain ⟨k, hk⟩ : ∃ k, U % m = k := ⟨_, rfl⟩
      rw [hk] at hlt
      have i1 : ((U : Nat) : Int) % (m : Int) = (k : Int) := by rw [← Int.natCast_emod, hk]
      have i2 : Int.tmod (U : Int) (m : Int) = (k : Int) := by rw [← Int.ofNat_tmod, hk]
      have i3 : IntKind.u64.wrap (m : Int) = (m : Int) := by rw [IntKind.wrap_u64]; omega
      have i4 : IntKind.i64.wrap (k : Int) = (k : Int) := by rw [IntKind.wrap_i64]; omega
      have hlk : k < (bl s).length := by rw [bl_length, HM.out]; exact hlt
      have O1 : Owns W1 W0.heap.size g cap (ofL (bl s)) := by rw [ofL_bl]; exact ho
      obtain ⟨hcl, hfz⟩ := O1.byte k hlk
      have hput := O1.put (t := ofL ((bl s).set k ((bl s)[k]'hlk ^^^ y))) k ((bl s)[k]'hlk ^^^ y) (by rw [bl_ofL, bl_ofL])
      have hxr := xor_u8 ((bl s)[k]'hlk) y
      have hne := sumN_set (bl s) k hlk ((bl s)[k]'hlk ^^^ y) (xor_other _ y HQ.out)
      rw [HX.out] at hne
      generalize (bl s)[k]'hlk = x at *
      have hbp := below_put (hb1.trans (Below.refl _ _)) O1.2.1 k (.int .u8 ((x ^^^ y).toNat : Int))
      have S3 := sum_any (some ⟨g, 0, none⟩) (ofL ((bl s).set k (x ^^^ y))) m cap (W1.setCell ⟨g, k, none⟩ (.int .u8 ((x ^^^ y).toNat : Int))) (by rw [ofL_size, List.length_set, bl_length, HM.out]) (by omega) hput.holds
      rw [bl_ofL] at S3
      obtain ⟨Z, hZ⟩ : ∃ Z, sumN ((bl s).set k (x ^^^ y)) = Z := ⟨_, rfl⟩
      rw [hZ] at S3 hne
      have T3 := Lib.hid S3
      have HNE := Lib.hid hne
      have BP := Lib.hid (below_cat B0.out hbp)
      have hkm : (k : Int) < (m : Int) := by omega
      have hcm : (m : Int) ≤ (cap : Int) := by have := ho.2.2.2; rw [HM.out] at this; omega
      have hzx : ((Z : Int) == (X : Int)) = false := by rw [beq_eq_false_iff_ne]; have := HNE.out; omega
      have HZX := Lib.hid hzx
      clear hput hne S3 hZ hbp O1 ho hb1 hlk hlt hk TW1 hzx
      generalize ((x ^^^ y).toNat : Int) = xv at *
      go_wp2_with (fail)
      all_goals try (exfalso; omega; done)
      clear hcl hfz hxr
      refine T3.out.mono ?_
      rintro e W6 ⟨rfl, rfl⟩
      have hzx := HZX.out
      go_wp2_with (fail)
      all_goals try (exfalso; omega; done)
      go_ret
      refine ⟨?_, BP.out⟩
      show Ending.returned (.bool ((Z : Int) != (X : Int))) = _
      rw [show ((Z : Int) != (X : Int)) = true from by unfold bne; rw [HZX.out]; rfl]
end Go.Proofs.Ytggchfmglaijgaa
