/- Proved here: what the document's page of 512 bytes is. -/
import Derived.Test.YtlkffignbjpfcaaRefPage
import Derived.Deep.RegionLaw
namespace Go.Proofs.Ytlkffignbjpfcaa
open Go.RowKit

theorem sealed_dec (s : ByteArray) (h : 4 ≤ s.size) : decide (ofL (sealL ((bl s).drop 4)) = s) = sealed (bl s) := by
  rw [Bool.eq_iff_iff, decide_eq_true_eq, sealed_iff (by rw [bl_length]; exact h)]
  constructor
  · intro e
    have := congrArg bl e
    rwa [bl_ofL] at this
  · intro e
    rw [e, ofL_bl]
theorem step_eq {P : Program} {ops : Array Oper} {o : Oper} {a : Act} {w : World} {K : Act → World → Prop} {Q : Exit → Act → World → Prop} {E : Prop} (hgd : o.guard = none) (h : Oper.wp P o a w K Q) :
    if Region.wanted o (yielded ops a.tmps) = true then Oper.wp P o a w K Q else E := by
  rw [if_pos (by simp [Region.wanted, hgd])]
  exact h
theorem wp_app_eq {P : Program} {w : World} {o : Oper} {a : Act} {K : Act → World → Prop} {Q : Exit → Act → World → Prop} (s x : Operand) (t : TypeId)
    (ho : o.op = .call { callee := .builtin .append, args := #[s, x], argTypes := #[t, t] }) (v u v' : Value) (w' : World) (hs : a.eval s = v) (hx : a.eval x = u)
    (hrun : ∀ ty, (Builtin.append_ #[t, t] ty #[v, u]).run P w = .ok v' w')
    (h : K (a.put o.dst v') w') : Oper.wp P o a w K Q := by
  have hr := hrun o.type
  unfold Oper.wp
  simp [execOp, ho, resolve, invoke, builtin, hs, hx, hr, Result.andThen]
  exact h
/-- 'append([]byte{}, ..)' in a statement that draws its order. -/
theorem tail_app {b off c : Nat} {s : ByteArray} (W : World) (hp : HoldsB W (some ⟨b, off, none⟩) s) (hs : s.size ≤ 1048576) :
    ∃ g cap w', Hid (∀ ty, (Builtin.append_ #[33, 33] ty #[.slice (some ⟨W.heap.size, 0, none⟩) 0 0, .slice (some ⟨b, off, none⟩) s.size c]).run Try.prog ((W.alloc (.cells #[] 5)).drew) = .ok (.slice (some ⟨g, 0, none⟩) s.size cap) w') ∧ Hid (Owns w' W.heap.size g cap s ∧ Below W.heap.size W w') := by
  have hb0 : Below W.heap.size W ((W.alloc (.cells #[] 5)).drew) := ((Below.refl _ _).alloc (Nat.le_refl _) _).drew
  have hz : (⟨#[]⟩ : ByteArray).size = 0 := rfl
  have ho : Owns ((W.alloc (.cells #[] 5)).drew) W.heap.size W.heap.size 0 ⟨#[]⟩ := (owns_empty W).far (Below.refl _ _).drew
  obtain ⟨g, cap, w', h1, h2, h3⟩ := append_next (c := c) ho hb0 (hp.below hb0) (fun e => by cases e) (by rw [hz]; omega)
  rw [empty_append] at h2
  simp only [hz, Nat.zero_add] at h1
  exact ⟨g, cap, w', Lib.hid h1, Lib.hid ⟨h2, h3⟩⟩
def BlankRel (s : ByteArray) (a x : Value) : Prop := ∃ k : Nat, x = .int .i64 (k : Int) ∧ k ≤ 512 ∧ a = .bool (blankL ((bl s).take k))
set_option maxRecDepth 100000 in
set_option maxHeartbeats 8000000 in
theorem rtake_512 (n : Nat) (hn : n ≤ 4294967295) (b off : Nat) (s : ByteArray) (c : Nat) (w : World) (hs : s.size = 512) (hc : 512 ≤ c) (hp : HoldsB w (some ⟨b, off, none⟩) s) :
    Calls Try.prog 20 #[.int .i64 (n : Int), .slice (some ⟨b, off, none⟩) 512 c] w (TakePost (takeR n (bl s)) w) := by
  obtain ⟨W0, hmk, ho, hb⟩ := make_full w 496 (by omega)
  have hmk : (Instr.makeSlice 33 (.int .i64 496) (.int .i64 496)).run Try.prog w = .ok (.slice (some ⟨w.heap.size, 0, none⟩) 496 496) W0 := hmk
  have hl : (bl s).length = 512 := by rw [bl_length, hs]
  have HH := Lib.hid (And.intro hp (And.intro hs (And.intro hl (And.intro ho hb))))
  have hc9 : (512 : Int) ≤ (c : Int) := by omega
  have hn9 : (n : Int) ≤ 4294967295 := by omega
  have hn8 : (0 : Int) ≤ (n : Int) := by omega
  have hc16 : ¬ c = 16 := by omega
  have hc4 : ¬ c = 4 := by omega
  have b4 : bl (s.extract 4 512) = (bl s).drop 4 := by rw [bl_extract, List.take_of_length_le (by rw [List.length_drop, hl]; decide)]
  have SM := Lib.hid (fun W (hW : Below w.heap.size w W) => (rseal_any (some ⟨b, off + 4, none⟩) (s.extract 4 512) 508 (c - 4) W (ext_size s 4 512 (by rw [hs]; decide)) (by decide) ((hp.below hW).part 4 512 (by rw [hs]; decide)) (fun e => by cases e)).mono (fun _ _ (h : ∃ r, _ ∧ NewB _ W r _) => show ∃ r, _ ∧ NewB (sealL (bl (s.extract 4 512))) w r _ from h.imp fun _ h => ⟨h.1, h.2.after hW⟩))
  rw [b4] at SM
  have CV := Lib.hid (fun W (hW : Below w.heap.size w W) => conv_str (hp.below hW) c (fun e => by cases e))
  rw [hs] at CV
  have hz4 : (sealL ((bl s).drop 4)).length = 512 := by rw [sealL_length, List.length_drop, hl]
  have HZ := Lib.hid hz4
  have hT : takeR n (bl s) = if blankL (bl s) then (zL 496, 0, 0) else if sealed (bl s) = false then ([], 0, 10) else if valN (((bl s).drop 4).take 4) ≠ n then ([], 0, 11) else ((bl s).drop 16, valN (((bl s).drop 8).take 8), 0) := by
    unfold takeR
    rw [if_neg (by rw [hl]; simp)]
  obtain ⟨X, hX⟩ : ∃ X, takeR n (bl s) = X := ⟨_, rfl⟩
  rw [hX]
  have HX := Lib.hid (hX.symm.trans hT)
  clear hs hl ho hb hn hT hX hc b4 hz4
  go_enter Try.func20, Try.ntmps20
  go_wp2_with (fail)
  go_loop [7, 21] (fun a x => BlankRel s a x) (fun _ x => 512 - (intOf x).toNat)
  case atStart => exact ⟨0, rfl, Nat.zero_le _, rfl⟩
  case round =>
    obtain ⟨k, rfl, hk, rfl⟩ := hrel
    by_cases hlt : k < 512
    · obtain ⟨b', off', e, hcl⟩ := HH.out.1 (by rw [HH.out.2.1]; decide)
      cases e
      have hcell := hcl k (by rw [HH.out.2.1]; exact hlt)
      have hsn := blank_snoc s k (by rw [HH.out.2.1]; exact hlt)
      have hz : decide (s.get! k = 0) = (((s.get! k).toNat : Int) == 0) := by
        rw [Bool.eq_iff_iff, decide_eq_true_eq, beq_iff_eq]
        constructor
        · intro h; rw [h]; rfl
        · intro h; apply UInt8.toNat.inj; have : (0 : UInt8).toNat = 0 := rfl; omega
      rw [hz] at hsn
      have HS := Lib.hid hsn
      clear hsn hz hcl hp
      generalize ((s.get! k).toNat : Int) = y at *
      generalize blankL ((bl s).take k) = q at *
      cases q
      · go_wp2_with (fail)
        go_round
        case rel => exact ⟨k + 1, by go_num, by omega, by rw [HS.out]; rfl⟩
        case measure => simp [intOf]; omega
      · cases hy : (y == 0)
        · go_wp2_with (fail)
          go_round
          case rel => exact ⟨k + 1, by go_num, by omega, by rw [HS.out, hy]; rfl⟩
          case measure => simp [intOf]; omega
        · go_wp2_with (fail)
          go_round
          case rel => exact ⟨k + 1, by go_num, by omega, by rw [HS.out, hy]; rfl⟩
          case measure => simp [intOf]; omega
    · obtain rfl : k = 512 := by omega
      have e : (bl s).take 512 = bl s := by rw [List.take_of_length_le (by rw [HH.out.2.2.1]; exact Nat.le_refl _)]
      rw [e]
      clear e hp
      cases q1 : blankL (bl s)
      · have hX := HX.out
        rw [q1, if_neg (by simp)] at hX
        have HX2 := Lib.hid hX
        have hq2 := (same_data (ofL (sealL ((bl s).drop 4))) s).trans (sealed_dec s (by rw [HH.out.2.1]; decide))
        have c1 := CV.out w (Below.refl _ _)
        have c1d := CV.out w.drew (Below.refl _ _).drew
        clear q1 hX HX
        cases q2 : sealed (bl s)
        · have hX := HX2.out
          rw [q2, if_pos rfl] at hX
          have HX3 := Lib.hid hX
          rw [q2] at hq2
          clear hX HX2 q2
          go_wp2_with (fail)
          go_region_with (go_at_call 45; refine (SM.out w.drew (Below.refl _ _).drew).mono ?_; rintro e W2 ⟨r, rfl, g2, k2, rfl, ho2, hb2⟩; have hc2 := CV.out W2 hb2; have hc3 := conv_str ho2.holds k2 (fun e => by cases e); rw [ofL_size, HZ.out] at hc3; have hz := HZ.out; rw [hz]; clear hz)
          all_goals
            go_wp2_with (fail)
            go_ret3
            rw [HX3.out]
            exact ⟨_, rfl, .inl ⟨rfl, rfl, hb2⟩⟩
        · have hX := HX2.out
          rw [q2, if_neg (by simp)] at hX
          have HX3 := Lib.hid hX
          rw [q2] at hq2
          clear hX HX2 q2
          obtain ⟨Y, hY⟩ : ∃ Y, valN (((bl s).drop 4).take 4) = Y := ⟨_, rfl⟩
          have V4 := Lib.hid (fun W (hW : Below w.heap.size w W) => value_any (some ⟨b, off + 4, none⟩) (s.extract 4 8) 4 (c - 4) W (ext_size s 4 8 (by rw [HH.out.2.1]; decide)) (by decide) ((HH.out.1.below hW).part 4 8 (by rw [HH.out.2.1]; decide)))
          rw [show bl (s.extract 4 8) = ((bl s).drop 4).take 4 from bl_extract s 4 8, hY] at V4
          have hX := HX3.out
          rw [hY] at hX
          clear hY HX3
          by_cases q3 : Y = n
          · have t3 : ((Y : Int) == (n : Int)) = true := by rw [beq_iff_eq]; omega
            rw [if_neg (by simp [q3])] at hX
            have HX4 := Lib.hid hX
            clear hX q3
            go_wp2_with (fail)
            go_region_with (go_at_call 45; refine (SM.out w.drew (Below.refl _ _).drew).mono ?_; rintro e W2 ⟨r, rfl, g2, k2, rfl, ho2, hb2⟩; have hc2 := CV.out W2 hb2; have hc3 := conv_str ho2.holds k2 (fun e => by cases e); rw [ofL_size, HZ.out] at hc3; have hz := HZ.out; rw [hz]; clear hz)
            all_goals
              have HB2 := Lib.hid hb2
              clear hb2 hc2 hc3 ho2 hq2 c1 c1d
              go_wp2_with (fail)
              refine (V4.out _ HB2.out).mono ?_
              rintro e W3 ⟨rfl, rfl⟩
              obtain ⟨g5, k5, w5, HRUN, H5⟩ := tail_app (b := b) (off := off + 16) (s := s.extract 16 512) (c := c - 16) W2 ((HH.out.1.below HB2.out).part 16 512 (by rw [HH.out.2.1]; decide)) (by rw [ext_size s 16 512 (by rw [HH.out.2.1]; decide)]; decide)
              rw [ext_size s 16 512 (by rw [HH.out.2.1]; decide)] at HRUN
              have WD := Lib.hid (fun W (hW : Below w.heap.size w W) => wide_any (some ⟨b, off + 8, none⟩) (s.extract 8 16) 8 (c - 8) W (ext_size s 8 16 (by rw [HH.out.2.1]; decide)) (by decide) ((HH.out.1.below hW).part 8 16 (by rw [HH.out.2.1]; decide)))
              rw [show bl (s.extract 8 16) = ((bl s).drop 8).take 8 from bl_extract s 8 16] at WD
              go_wp2_with (fail)
              have k16 : (16 : Int) ≤ (c : Int) := by omega
              have k8 : ¬ c = 8 := by omega
              go_region_law (first | (refine step_eq rfl (wp_app_eq (.tmp 45) (.tmp 47) 33 rfl _ _ _ _ (by simp [Act.eval, Act.put]) (by simp [Act.eval, Act.put]) HRUN.out ?_)) | (go_simp; go_at_call 50; refine (WD.out _ (by first | exact HB2.out | exact HB2.out.drew | exact (HB2.out.alloc HB2.out.size _).drew | exact (HB2.out.drew).alloc HB2.out.size _ | exact below_cat HB2.out H5.out.2)).mono ?_; rintro e W4 ⟨rfl, rfl⟩))
              all_goals
                go_wp2_with (fail)
                go_ret3
                rw [HX4.out]
                have b16 : bl (s.extract 16 512) = (bl s).drop 16 := by rw [bl_extract, List.take_of_length_le (by rw [List.length_drop, HH.out.2.2.1]; decide)]
                refine ⟨_, rfl, .inr ⟨g5, k5, ?_, ?_, below_cat HB2.out H5.out.2⟩⟩
                · rw [List.length_drop, HH.out.2.2.1]
                  rfl
                · show Owns _ _ _ _ (ofL ((bl s).drop 16))
                  rw [← b16, ofL_bl]
                  exact H5.out.1.mono HB2.out.size
          · have t3 : ((Y : Int) == (n : Int)) = false := by rw [beq_eq_false_iff_ne]; omega
            rw [if_pos q3] at hX
            have HX4 := Lib.hid hX
            clear hX q3
            go_wp2_with (fail)
            go_region_with (go_at_call 45; refine (SM.out w.drew (Below.refl _ _).drew).mono ?_; rintro e W2 ⟨r, rfl, g2, k2, rfl, ho2, hb2⟩; have hc2 := CV.out W2 hb2; have hc3 := conv_str ho2.holds k2 (fun e => by cases e); rw [ofL_size, HZ.out] at hc3; have hz := HZ.out; rw [hz]; clear hz)
            all_goals
              have HB2 := Lib.hid hb2
              clear hb2 hc2 hc3 ho2 hq2 c1 c1d
              go_wp2_with (fail)
              refine (V4.out _ HB2.out).mono ?_
              rintro e W3 ⟨rfl, rfl⟩
              go_wp2_with (fail)
              go_ret3
              rw [HX4.out]
              exact ⟨_, rfl, .inl ⟨rfl, rfl, HB2.out⟩⟩
      · have hX := HX.out
        rw [q1, if_pos rfl] at hX
        have HX2 := Lib.hid hX
        clear q1 hX HX
        go_wp2_with (fail)
        go_ret3
        rw [HX2.out]
        exact ⟨_, rfl, .inr ⟨_, _, rfl, HH.out.2.2.2.1, HH.out.2.2.2.2⟩⟩
end Go.Proofs.Ytlkffignbjpfcaa
