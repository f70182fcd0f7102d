/- Proved here: the statement SheetLasts, walked: it answers true of every generation, both stamps, every fuse and all that is kept, in every world. -/
import Derived.Test.YtgfdencjhcfljaaLastsPlain
import Derived.Test.YtgfdencjhcfljaaBoolKit
namespace Go.Proofs.Ytgfdencjhcfljaa
open Go.RowKit

/-- 'append' in a guarded place of a statement, where its run is known. -/
theorem wpList_append_wanted {P : Program} {w : World} {ops : Array Oper} {rest : List Oper} {o : Oper} {a : Act} {Q : Exit → Act → World → Prop} (hw : Region.wanted o (yielded ops a.tmps) = true) (s x : Operand) (t : TypeId)
    (ho : o.op = .call { callee := .builtin .append, args := #[s, x], argTypes := #[t, t] }) (v u v' : Value) (w' : World) (hs : a.eval s = v) (hx : a.eval x = u)
    (hrun : ∀ ty, (Builtin.append_ #[t, t] ty #[v, u]).run P w = .ok v' w')
    (h : wpList P ops Q rest (a.put o.dst v') w') : wpList P ops Q (o :: rest) a w := by
  refine wpList_step fun K hK => ?_
  rw [if_pos hw]
  have hr := hrun o.type
  unfold Oper.wp
  simp [execOp, ho, resolve, invoke, builtin, hs, hx, hr, Result.andThen]
  exact hK _ _ h
theorem lB0_off (g a k : Nat) : (lB0 g a k).off = decide (k = 0) := by
  obtain ⟨_, _, h3, _, _⟩ := lA1_safe g a
  show ((lA1 g a).down || (some k == some 0)) = _
  rw [h3, Bool.false_or]
  cases k <;> simp
set_option maxRecDepth 100000 in
set_option maxHeartbeats 4000000 in
theorem lasts_out (n : Int) (a b : Nat) (fu : Int) (p : Option Addr) (kl kc : Nat) (w : World) (hn : n < 1 ∨ 4294967295 ≤ n) :
    Calls Try.prog 14 #[.int .i64 n, .int .u64 (a : Int), .int .u64 (b : Int), .int .i64 fu, .slice p kl kc] w fun e w' => e = .returned (.bool true) ∧ Below w.heap.size w w' := by
  have AW := Lib.hid (awake15_any w)
  go_enter Try.func14, Try.ntmps14
  go_wp2_with (fail)
  refine AW.out.mono ?_
  rintro e W0 ⟨rfl, hb⟩
  have B0 := Lib.hid hb
  clear hb AW
  rcases hn with hn | hn
  · go_wp2_with (fail)
    all_goals first | (exfalso; omega) | (go_ret; exact ⟨rfl, B0.out⟩)
  · have hn1 : ¬ n < 1 := by omega
    go_wp2_with (fail)
    all_goals first | (exfalso; omega) | (go_ret; exact ⟨rfl, B0.out⟩)
set_option maxRecDepth 100000 in
set_option maxHeartbeats 16000000 in
theorem lasts_0 (n : Int) (g a b : Nat) (hn : n = (g : Int)) (fu : Int) (p : Option Addr) (keep : List Bool) (kc : Nat) (w : World) (h1 : 1 ≤ g) (h2 : g < 4294967295) (ha : a < 18446744073709551616) (hb : b < 18446744073709551616) (hk : HoldsT w p keep) (hnil : p = none → kc = 0) (hkl : keep.length ≤ 140737488355328) (hf : IntKind.u64.wrap fu % 3 = 0) :
    Calls Try.prog 14 #[.int .i64 n, .int .u64 (a : Int), .int .u64 (b : Int), .int .i64 fu, .slice p keep.length kc] w fun e w' => e = .returned (.bool true) ∧ Below w.heap.size w w' := by
  have AW := Lib.hid (awake15_any w)
  have HH := Lib.hid (And.intro h1 (And.intro h2 (And.intro ha hb)))
  have HK := Lib.hid (And.intro hk (And.intro hnil hkl))
  have g1 : ¬ n < 1 := by omega
  have g2 : ¬ (4294967295 : Int) ≤ n := by omega
  have HN := Lib.hid hn
  obtain ⟨L, hL⟩ : ∃ L, keep.length = L := ⟨_, rfl⟩
  have HL := Lib.hid hL
  rw [hL]
  obtain ⟨U, hU⟩ : ∃ U : Nat, IntKind.u64.wrap fu = (U : Int) := ⟨(IntKind.u64.wrap fu).toNat, by rw [IntKind.wrap_u64]; omega⟩
  have hU3 : (U : Int) % 3 = 0 := by rw [← hU]; exact hf
  have hU4 : (U : Int).tmod 3 = 0 := by rw [Int.tmod_eq_emod_of_nonneg (by omega)]; exact hU3
  obtain ⟨s1, s2, s3, s4, s5⟩ := lA1_safe g a
  have HS := Lib.hid (And.intro s1 (And.intro s2 (And.intro s3 (And.intro s4 s5))))
  clear h1 h2 ha hb hk hnil hkl hf hL s1 s2 s3 s4 s5 hn
  go_enter Try.func14, Try.ntmps14
  go_wp2_with (fail)
  refine AW.out.mono ?_
  rintro e W0 ⟨rfl, hb⟩
  have NW := Lib.hid (new_ok 64 (by decide) (by decide) W0)
  have B0 := Lib.hid hb
  clear hb AW
  go_wp2_with (fail)
  all_goals try (exfalso; omega; done)
  clear g1 g2
  obtain rfl := HN.out
  refine NW.out.mono ?_
  rintro e W1 ⟨G, F1, rfl, hd, hb, hF⟩
  have D1 := Lib.hid (DW.mk hd hb hF)
  have PH := puthead_ok D1.out ⟨(by decide : (newM 64).steps ≤ 4611686018427387904), (by decide : (newM 64).fuse.getD 0 ≤ 9223372036854775807), (by decide : (newM 64).loose.length ≤ 1099511627776)⟩ rfl (by decide) (by decide) g a HH.out.1 (by have := HH.out.2.1; omega) HH.out.2.2.1
  have P1 := Lib.hid PH
  clear hd hb hF NW PH
  go_wp2_with (fail)
  refine P1.out.mono ?_
  rintro e W2 ⟨rfl, F2, hd⟩
  have D2 := Lib.hid hd
  have e1 : (newM 64).write (g % 2) (headB g a) = { (newM 64).step with loose := (newM 64).loose ++ [(g % 2, fullB (headB g a))] } := DM.write_yes _ rfl _ _
  have o1 : ((newM 64).write (g % 2) (headB g a)).off = false := by rw [e1]; rfl
  have t1 : Tame ((newM 64).write (g % 2) (headB g a)) := by rw [e1]; exact ⟨by show 0 + 1 ≤ 4611686018427387904; decide, by show 0 ≤ 9223372036854775807; decide, by show 1 ≤ 1099511627776; decide⟩
  have FL := dflush_ok D2.out t1 o1
  have F1' := Lib.hid FL
  clear hd P1 D1 e1 o1 t1 FL
  go_wp2_with (fail)
  refine F1'.out.mono ?_
  rintro e W3 ⟨rfl, hd, _⟩
  have D3 := Lib.hid (show DW W0 W3 F2 G 64 (lA1 g a) from hd)
  have FU := dfuse D3.out 0
  have F2' := Lib.hid (show Calls Try.prog 36 #[.pointer (some ⟨G, 0, none⟩), .int .i64 0] W3 (fun e W' => e = .returned (.int .i64 0) ∧ DW W0 W' F2 G 64 ((lA1 g a).fused 0) ∧ Touch (Only G) W3 W') from FU)
  clear hd F1' D2 FU
  go_wp2_with (fail)
  refine F2'.out.mono ?_
  rintro e W4 ⟨rfl, hd, _⟩
  have D4 := Lib.hid (show DW W0 W4 F2 G 64 (lB0 g a 0) from hd)
  have tb : Tame (lB0 g a 0) := ⟨by show (lA1 g a).steps ≤ _; rw [HS.out.2.2.2.2]; decide, by show 0 ≤ 9223372036854775807; decide, by show (lA1 g a).loose.length ≤ _; rw [HS.out.2.1]; decide⟩
  have eg : ((g + 1 : Nat) : Int) = (g : Int) + 1 := by omega
  have PH := puthead_off D4.out tb (by rw [lB0_off]; rfl) (by decide) (by decide) (g + 1) b (by omega) (by have := HH.out.2.1; omega) HH.out.2.2.2
  rw [eg] at PH
  have P2 := Lib.hid PH
  clear hd F2' D3 tb eg PH
  go_wp2_with (fail)
  refine P2.out.mono ?_
  rintro e W5 ⟨rfl, hd⟩
  have es : (lB0 g a 0).step = { lB0 g a 0 with down := true } := DM.step_no _ (by rw [lB0_off]; rfl)
  rw [es] at hd
  obtain ⟨M5, hM5⟩ : ∃ M5, M5 = ({ lB0 g a 0 with down := true } : DM) := ⟨_, rfl⟩
  rw [← hM5] at hd
  have q1 : M5.safe = (lA1 g a).safe := by rw [hM5]; rfl
  have q2 : M5.loose = [] := by rw [hM5]; exact HS.out.2.1
  have q3 : M5.off = true := by rw [hM5]; rfl
  have q4 : M5.steps ≤ 5 := by rw [hM5]; show (lA1 g a).steps ≤ 5; rw [HS.out.2.2.2.2]; decide
  have q5 : M5.fuse.getD 0 ≤ 5 := by rw [hM5]; show 0 ≤ 5; decide
  have D5 := Lib.hid hd
  have t5 : Tame M5 := ⟨by omega, by omega, by rw [q2]; decide⟩
  have FL := Lib.hid (dflush_off D5.out t5 q3)
  have ef : M5.flush = { M5 with down := true } := by rw [DM.flush_no _ q3, DM.step_no _ q3]
  rw [ef] at FL
  have HQ := Lib.hid (And.intro q1 (And.intro q2 (And.intro q4 q5)))
  clear hd P2 D4 es hM5 t5 ef q1 q2 q3 q4 q5
  go_wp2_with (fail)
  refine FL.out.mono ?_
  rintro e W6 ⟨rfl, hd, _⟩
  obtain ⟨M6, hM6⟩ : ∃ M6, M6 = ({ M5 with down := true } : DM) := ⟨_, rfl⟩
  rw [← hM6] at hd
  have D6 := Lib.hid hd
  have R6 := Lib.hid (show (∀ kp, (M6.crash kp).now = (lA1 g a).safe) ∧ M6.steps ≤ 10 ∧ M6.fuse.getD 0 ≤ 10 ∧ M6.loose.length ≤ 10 from
    ⟨fun kp => by rw [crash_none _ _ (by rw [hM6]; exact HQ.out.2.1), hM6]; exact HQ.out.1, by rw [hM6]; have := HQ.out.2.2.1; show M5.steps ≤ 10; omega, by rw [hM6]; have := HQ.out.2.2.2; show M5.fuse.getD 0 ≤ 10; omega, by rw [hM6]; show M5.loose.length ≤ 10; rw [HQ.out.2.1]; decide⟩)
  clear hd FL D5 hM6 HQ
  obtain ⟨g5, cap5, w5, hr5, hT5, hg5, hb5⟩ := appendT_first (w := W6) (c := kc) (HK.out.1.below (below_cat B0.out D6.out.below)) HK.out.2.1 (by have := HK.out.2.2; omega)
  rw [HL.out] at hr5
  have R5 := Lib.hid hr5
  have CR := dcrash (D6.out.on hb5) ⟨by have := R6.out.2.1; omega, by have := R6.out.2.2.1; omega, by have := R6.out.2.2.2; omega⟩ (some ⟨g5, 0, none⟩) keep cap5 hT5 (by have := HK.out.2.2; omega) (fun x e => by injection e with e; rw [← e]; exact D6.out.new hg5)
  rw [HL.out] at CR
  have C1 := Lib.hid CR
  clear hr5 hT5 hg5 hb5 CR
  go_wp2_with (at_builtin; refine wpList_append_wanted (by first | rfl | simp [Region.wanted, yielded]) (.tmp 80) (.tmp 81) 54 rfl _ _ _ _ rfl rfl R5.out ?_)
  refine C1.out.mono ?_
  rintro e W7 ⟨rfl, hd, _⟩
  have D7 := Lib.hid hd
  have hcalm : Calm (M6.crash keep) := ⟨rfl, rfl, by show M6.steps ≤ 1000000; have := R6.out.2.1; omega, by show 0 ≤ 1000000; decide⟩
  have GH := gethead_ok D7.out hcalm (by show M6.steps ≤ 999990; have := R6.out.2.1; omega) (by decide) (by decide)
  have hnow := R6.out.1 keep
  have hac := acc_old (M6.crash keep) g a HH.out.1 HH.out.2.1 HH.out.2.2.1 (by rw [hnow, HS.out.1]; exact (set_get g _).1) (by rw [hnow, HS.out.1]; exact (set_get g _).2)
  have G1 := Lib.hid (show Calls Try.prog 58 #[.pointer (some ⟨G, 0, none⟩)] W7 (fun e W' => e = .returned (.tuple #[.agg #[.int .i64 (g : Int), .int .u64 (a : Int)], .int .i64 0]) ∧ Below W0.heap.size W0 W') from by
    refine GH.mono fun e W' h => ?_
    unfold GetPost at h
    rw [hac, if_neg (show ¬ g = 0 by have := HH.out.1; omega)] at h
    exact h)
  have tgg : ((g : Int) == (g : Int) + 1) = false := by rw [beq_eq_false_iff_ne]; omega
  clear hd hcalm GH hnow hac C1
  go_wp2_with (fail)
  refine G1.out.mono ?_
  rintro e W8 ⟨rfl, hb⟩
  have B8 := Lib.hid (B0.out.trans (hb.mono B0.out.size))
  clear hb
  go_wp2_with (fail)
  all_goals first
    | (exfalso; omega)
    | (go_ret
       refine ⟨ret_bool (by first | rfl | simp), ?_⟩
       first | exact ((B8.out.alloc B8.out.size _).alloc (by simp; have := B8.out.size; omega) _).alloc (by simp; have := B8.out.size; omega) _)
set_option maxRecDepth 100000 in
set_option maxHeartbeats 16000000 in
theorem lasts_1 (n : Int) (g a b : Nat) (hn : n = (g : Int)) (fu : Int) (p : Option Addr) (keep : List Bool) (kc : Nat) (w : World) (h1 : 1 ≤ g) (h2 : g < 4294967295) (ha : a < 18446744073709551616) (hb : b < 18446744073709551616) (hk : HoldsT w p keep) (hnil : p = none → kc = 0) (hkl : keep.length ≤ 140737488355328) (hf : IntKind.u64.wrap fu % 3 = 1) :
    Calls Try.prog 14 #[.int .i64 n, .int .u64 (a : Int), .int .u64 (b : Int), .int .i64 fu, .slice p keep.length kc] w fun e w' => e = .returned (.bool true) ∧ Below w.heap.size w w' := by
  have AW := Lib.hid (awake15_any w)
  have HH := Lib.hid (And.intro h1 (And.intro h2 (And.intro ha hb)))
  have HK := Lib.hid (And.intro hk (And.intro hnil hkl))
  have g1 : ¬ n < 1 := by omega
  have g2 : ¬ (4294967295 : Int) ≤ n := by omega
  have HN := Lib.hid hn
  obtain ⟨L, hL⟩ : ∃ L, keep.length = L := ⟨_, rfl⟩
  have HL := Lib.hid hL
  rw [hL]
  obtain ⟨U, hU⟩ : ∃ U : Nat, IntKind.u64.wrap fu = (U : Int) := ⟨(IntKind.u64.wrap fu).toNat, by rw [IntKind.wrap_u64]; omega⟩
  have hU3 : (U : Int) % 3 = 1 := by rw [← hU]; exact hf
  have hU4 : (U : Int).tmod 3 = 1 := by rw [Int.tmod_eq_emod_of_nonneg (by omega)]; exact hU3
  obtain ⟨s1, s2, s3, s4, s5⟩ := lA1_safe g a
  have HS := Lib.hid (And.intro s1 (And.intro s2 (And.intro s3 (And.intro s4 s5))))
  clear h1 h2 ha hb hk hnil hkl hf hL s1 s2 s3 s4 s5 hn
  go_enter Try.func14, Try.ntmps14
  go_wp2_with (fail)
  refine AW.out.mono ?_
  rintro e W0 ⟨rfl, hb⟩
  have NW := Lib.hid (new_ok 64 (by decide) (by decide) W0)
  have B0 := Lib.hid hb
  clear hb AW
  go_wp2_with (fail)
  all_goals try (exfalso; omega; done)
  clear g1 g2
  obtain rfl := HN.out
  refine NW.out.mono ?_
  rintro e W1 ⟨G, F1, rfl, hd, hb, hF⟩
  have D1 := Lib.hid (DW.mk hd hb hF)
  have PH := puthead_ok D1.out ⟨(by decide : (newM 64).steps ≤ 4611686018427387904), (by decide : (newM 64).fuse.getD 0 ≤ 9223372036854775807), (by decide : (newM 64).loose.length ≤ 1099511627776)⟩ rfl (by decide) (by decide) g a HH.out.1 (by have := HH.out.2.1; omega) HH.out.2.2.1
  have P1 := Lib.hid PH
  clear hd hb hF NW PH
  go_wp2_with (fail)
  refine P1.out.mono ?_
  rintro e W2 ⟨rfl, F2, hd⟩
  have D2 := Lib.hid hd
  have e1 : (newM 64).write (g % 2) (headB g a) = { (newM 64).step with loose := (newM 64).loose ++ [(g % 2, fullB (headB g a))] } := DM.write_yes _ rfl _ _
  have o1 : ((newM 64).write (g % 2) (headB g a)).off = false := by rw [e1]; rfl
  have t1 : Tame ((newM 64).write (g % 2) (headB g a)) := by rw [e1]; exact ⟨by show 0 + 1 ≤ 4611686018427387904; decide, by show 0 ≤ 9223372036854775807; decide, by show 1 ≤ 1099511627776; decide⟩
  have FL := dflush_ok D2.out t1 o1
  have F1' := Lib.hid FL
  clear hd P1 D1 e1 o1 t1 FL
  go_wp2_with (fail)
  refine F1'.out.mono ?_
  rintro e W3 ⟨rfl, hd, _⟩
  have D3 := Lib.hid (show DW W0 W3 F2 G 64 (lA1 g a) from hd)
  have FU := dfuse D3.out 1
  have F2' := Lib.hid (show Calls Try.prog 36 #[.pointer (some ⟨G, 0, none⟩), .int .i64 1] W3 (fun e W' => e = .returned (.int .i64 0) ∧ DW W0 W' F2 G 64 ((lA1 g a).fused 1) ∧ Touch (Only G) W3 W') from FU)
  clear hd F1' D2 FU
  go_wp2_with (fail)
  refine F2'.out.mono ?_
  rintro e W4 ⟨rfl, hd, _⟩
  have D4 := Lib.hid (show DW W0 W4 F2 G 64 (lB0 g a 1) from hd)
  have tb : Tame (lB0 g a 1) := ⟨by show (lA1 g a).steps ≤ _; rw [HS.out.2.2.2.2]; decide, by show 1 ≤ 9223372036854775807; decide, by show (lA1 g a).loose.length ≤ _; rw [HS.out.2.1]; decide⟩
  have eg : ((g + 1 : Nat) : Int) = (g : Int) + 1 := by omega
  have PH := puthead_ok D4.out tb (by rw [lB0_off]; rfl) (by decide) (by decide) (g + 1) b (by omega) (by have := HH.out.2.1; omega) HH.out.2.2.2
  rw [eg] at PH
  have P2 := Lib.hid PH
  clear hd F2' D3 tb eg PH
  go_wp2_with (fail)
  refine P2.out.mono ?_
  rintro e W5 ⟨rfl, F3, hd⟩
  have ob : (lB0 g a 1).off = false := by rw [lB0_off]; rfl
  have es : (lB0 g a 1).write ((g + 1) % 2) (headB (g + 1) b) = { (lB0 g a 1).step with loose := (lB0 g a 1).loose ++ [((g + 1) % 2, fullB (headB (g + 1) b))] } := DM.write_yes _ ob _ _
  obtain ⟨M5, hM5⟩ : ∃ M5, M5 = (lB0 g a 1).write ((g + 1) % 2) (headB (g + 1) b) := ⟨_, rfl⟩
  rw [← hM5] at hd
  have q1 : M5.safe = (lA1 g a).safe := by rw [hM5, es]; show (lB0 g a 1).step.safe = _; rw [DM.step_safe]; rfl
  have q2 : M5.loose = [((g + 1) % 2, headB (g + 1) b)] := by rw [hM5, es]; show (lA1 g a).loose ++ _ = _; rw [HS.out.2.1, full_headB]; rfl
  have q6 : M5.fuse = some 0 := by rw [hM5, es]; show (lB0 g a 1).step.fuse = _; rw [DM.step_fuse _ ob]; rfl
  have q7 : M5.down = false := by rw [hM5, es]; show (lB0 g a 1).step.down = _; rw [DM.step_down _ ob]; exact HS.out.2.2.1
  have q4 : M5.steps ≤ 5 := by rw [hM5, es]; show (lB0 g a 1).step.steps ≤ 5; rw [DM.step_steps _ ob]; show (lA1 g a).steps + 1 ≤ 5; rw [HS.out.2.2.2.2]; decide
  have q3 : M5.off = true := by unfold DM.off; rw [q6, q7]; rfl
  have D5 := Lib.hid hd
  have t5 : Tame M5 := ⟨by omega, by rw [q6]; decide, by rw [q2]; show 1 ≤ 1099511627776; decide⟩
  have FL := Lib.hid (dflush_off D5.out t5 q3)
  have ef : M5.flush = { M5 with down := true } := by rw [DM.flush_no _ q3, DM.step_no _ q3]
  rw [ef] at FL
  have HQ := Lib.hid (And.intro q1 (And.intro q2 (And.intro q4 q6)))
  clear hd P2 D4 es hM5 t5 ef q1 q2 q3 q4 q6 q7 ob
  go_wp2_with (fail)
  refine FL.out.mono ?_
  rintro e W6 ⟨rfl, hd, _⟩
  obtain ⟨M6, hM6⟩ : ∃ M6, M6 = ({ M5 with down := true } : DM) := ⟨_, rfl⟩
  rw [← hM6] at hd
  have D6 := Lib.hid hd
  have R6 := Lib.hid (show (∀ kp, (M6.crash kp).now = (lA1 g a).safe ∨ (M6.crash kp).now = (lA1 g a).safe.set ((g + 1) % 2) (headB (g + 1) b)) ∧ M6.steps ≤ 10 ∧ M6.fuse.getD 0 ≤ 10 ∧ M6.loose.length ≤ 10 from
    ⟨fun kp => crash_two _ _ _ kp M6 (by rw [hM6]; exact HQ.out.1) (by rw [hM6]; exact HQ.out.2.1), by rw [hM6]; have := HQ.out.2.2.1; show M5.steps ≤ 10; omega, by rw [hM6]; show M5.fuse.getD 0 ≤ 10; rw [HQ.out.2.2.2]; decide, by rw [hM6]; show M5.loose.length ≤ 10; rw [HQ.out.2.1]; show 1 ≤ 10; decide⟩)
  clear hd FL D5 hM6 HQ
  obtain ⟨g5, cap5, w5, hr5, hT5, hg5, hb5⟩ := appendT_first (w := W6) (c := kc) (HK.out.1.below (below_cat B0.out D6.out.below)) HK.out.2.1 (by have := HK.out.2.2; omega)
  rw [HL.out] at hr5
  have R5 := Lib.hid hr5
  have CR := dcrash (D6.out.on hb5) ⟨by have := R6.out.2.1; omega, by have := R6.out.2.2.1; omega, by have := R6.out.2.2.2; omega⟩ (some ⟨g5, 0, none⟩) keep cap5 hT5 (by have := HK.out.2.2; omega) (fun x e => by injection e with e; rw [← e]; exact D6.out.new hg5)
  rw [HL.out] at CR
  have C1 := Lib.hid CR
  clear hr5 hT5 hg5 hb5 CR
  go_wp2_with (at_builtin; refine wpList_append_wanted (by first | rfl | simp [Region.wanted, yielded]) (.tmp 80) (.tmp 81) 54 rfl _ _ _ _ rfl rfl R5.out ?_)
  refine C1.out.mono ?_
  rintro e W7 ⟨rfl, hd, _⟩
  have D7 := Lib.hid hd
  have hcalm : Calm (M6.crash keep) := ⟨rfl, rfl, by show M6.steps ≤ 1000000; have := R6.out.2.1; omega, by show 0 ≤ 1000000; decide⟩
  have GH := gethead_ok D7.out hcalm (by show M6.steps ≤ 999990; have := R6.out.2.1; omega) (by decide) (by decide)
  rcases R6.out.1 keep with hnow | hnow
  · skip
    have hac := acc_old (M6.crash keep) g a HH.out.1 HH.out.2.1 HH.out.2.2.1 (by rw [hnow, HS.out.1]; exact (set_get g _).1) (by rw [hnow, HS.out.1]; exact (set_get g _).2)
    have G1 := Lib.hid (show Calls Try.prog 58 #[.pointer (some ⟨G, 0, none⟩)] W7 (fun e W' => e = .returned (.tuple #[.agg #[.int .i64 (g : Int), .int .u64 (a : Int)], .int .i64 0]) ∧ Below W0.heap.size W0 W') from by
      refine GH.mono fun e W' h => ?_
      unfold GetPost at h
      rw [hac, if_neg (show ¬ g = 0 by have := HH.out.1; omega)] at h
      exact h)
    have tgg : ((g : Int) == (g : Int) + 1) = false := by rw [beq_eq_false_iff_ne]; omega
    clear hd hcalm GH hnow hac C1
    go_wp2_with (fail)
    refine G1.out.mono ?_
    rintro e W8 ⟨rfl, hb⟩
    have B8 := Lib.hid (B0.out.trans (hb.mono B0.out.size))
    clear hb
    go_wp2_with (fail)
    all_goals first
      | (exfalso; omega)
      | (go_ret
         refine ⟨ret_bool (by first | rfl | simp), ?_⟩
         first | exact ((B8.out.alloc B8.out.size _).alloc (by simp; have := B8.out.size; omega) _).alloc (by simp; have := B8.out.size; omega) _)
  · skip
    have hac := acc_new (M6.crash keep) g a b HH.out.1 HH.out.2.1 HH.out.2.2.1 HH.out.2.2.2 (by rw [hnow, HS.out.1]; exact (set_get2 g _ _).1) (by rw [hnow, HS.out.1]; exact (set_get2 g _ _).2)
    have G1 := Lib.hid (show Calls Try.prog 58 #[.pointer (some ⟨G, 0, none⟩)] W7 (fun e W' => e = .returned (.tuple #[.agg #[.int .i64 ((g : Int) + 1), .int .u64 (b : Int)], .int .i64 0]) ∧ Below W0.heap.size W0 W') from by
      refine GH.mono fun e W' h => ?_
      unfold GetPost at h
      rw [hac, if_neg (show ¬ g + 1 = 0 by omega)] at h
      exact h)
    clear hd hcalm GH hnow hac C1
    go_wp2_with (fail)
    refine G1.out.mono ?_
    rintro e W8 ⟨rfl, hb⟩
    have B8 := Lib.hid (B0.out.trans (hb.mono B0.out.size))
    clear hb
    go_wp2_with (fail)
    all_goals first
      | (exfalso; omega)
      | (go_ret
         refine ⟨ret_bool (by first | rfl | simp), ?_⟩
         first | exact ((B8.out.alloc B8.out.size _).alloc (by simp; have := B8.out.size; omega) _).alloc (by simp; have := B8.out.size; omega) _)
set_option maxRecDepth 100000 in
set_option maxHeartbeats 16000000 in
theorem lasts_2 (n : Int) (g a b : Nat) (hn : n = (g : Int)) (fu : Int) (p : Option Addr) (keep : List Bool) (kc : Nat) (w : World) (h1 : 1 ≤ g) (h2 : g < 4294967295) (ha : a < 18446744073709551616) (hb : b < 18446744073709551616) (hk : HoldsT w p keep) (hnil : p = none → kc = 0) (hkl : keep.length ≤ 140737488355328) (hf : IntKind.u64.wrap fu % 3 = 2) :
    Calls Try.prog 14 #[.int .i64 n, .int .u64 (a : Int), .int .u64 (b : Int), .int .i64 fu, .slice p keep.length kc] w fun e w' => e = .returned (.bool true) ∧ Below w.heap.size w w' := by
  have AW := Lib.hid (awake15_any w)
  have HH := Lib.hid (And.intro h1 (And.intro h2 (And.intro ha hb)))
  have HK := Lib.hid (And.intro hk (And.intro hnil hkl))
  have g1 : ¬ n < 1 := by omega
  have g2 : ¬ (4294967295 : Int) ≤ n := by omega
  have HN := Lib.hid hn
  obtain ⟨L, hL⟩ : ∃ L, keep.length = L := ⟨_, rfl⟩
  have HL := Lib.hid hL
  rw [hL]
  obtain ⟨U, hU⟩ : ∃ U : Nat, IntKind.u64.wrap fu = (U : Int) := ⟨(IntKind.u64.wrap fu).toNat, by rw [IntKind.wrap_u64]; omega⟩
  have hU3 : (U : Int) % 3 = 2 := by rw [← hU]; exact hf
  have hU4 : (U : Int).tmod 3 = 2 := by rw [Int.tmod_eq_emod_of_nonneg (by omega)]; exact hU3
  obtain ⟨s1, s2, s3, s4, s5⟩ := lA1_safe g a
  have HS := Lib.hid (And.intro s1 (And.intro s2 (And.intro s3 (And.intro s4 s5))))
  clear h1 h2 ha hb hk hnil hkl hf hL s1 s2 s3 s4 s5 hn
  go_enter Try.func14, Try.ntmps14
  go_wp2_with (fail)
  refine AW.out.mono ?_
  rintro e W0 ⟨rfl, hb⟩
  have NW := Lib.hid (new_ok 64 (by decide) (by decide) W0)
  have B0 := Lib.hid hb
  clear hb AW
  go_wp2_with (fail)
  all_goals try (exfalso; omega; done)
  clear g1 g2
  obtain rfl := HN.out
  refine NW.out.mono ?_
  rintro e W1 ⟨G, F1, rfl, hd, hb, hF⟩
  have D1 := Lib.hid (DW.mk hd hb hF)
  have PH := puthead_ok D1.out ⟨(by decide : (newM 64).steps ≤ 4611686018427387904), (by decide : (newM 64).fuse.getD 0 ≤ 9223372036854775807), (by decide : (newM 64).loose.length ≤ 1099511627776)⟩ rfl (by decide) (by decide) g a HH.out.1 (by have := HH.out.2.1; omega) HH.out.2.2.1
  have P1 := Lib.hid PH
  clear hd hb hF NW PH
  go_wp2_with (fail)
  refine P1.out.mono ?_
  rintro e W2 ⟨rfl, F2, hd⟩
  have D2 := Lib.hid hd
  have e1 : (newM 64).write (g % 2) (headB g a) = { (newM 64).step with loose := (newM 64).loose ++ [(g % 2, fullB (headB g a))] } := DM.write_yes _ rfl _ _
  have o1 : ((newM 64).write (g % 2) (headB g a)).off = false := by rw [e1]; rfl
  have t1 : Tame ((newM 64).write (g % 2) (headB g a)) := by rw [e1]; exact ⟨by show 0 + 1 ≤ 4611686018427387904; decide, by show 0 ≤ 9223372036854775807; decide, by show 1 ≤ 1099511627776; decide⟩
  have FL := dflush_ok D2.out t1 o1
  have F1' := Lib.hid FL
  clear hd P1 D1 e1 o1 t1 FL
  go_wp2_with (fail)
  refine F1'.out.mono ?_
  rintro e W3 ⟨rfl, hd, _⟩
  have D3 := Lib.hid (show DW W0 W3 F2 G 64 (lA1 g a) from hd)
  have FU := dfuse D3.out 2
  have F2' := Lib.hid (show Calls Try.prog 36 #[.pointer (some ⟨G, 0, none⟩), .int .i64 2] W3 (fun e W' => e = .returned (.int .i64 0) ∧ DW W0 W' F2 G 64 ((lA1 g a).fused 2) ∧ Touch (Only G) W3 W') from FU)
  clear hd F1' D2 FU
  go_wp2_with (fail)
  refine F2'.out.mono ?_
  rintro e W4 ⟨rfl, hd, _⟩
  have D4 := Lib.hid (show DW W0 W4 F2 G 64 (lB0 g a 2) from hd)
  have tb : Tame (lB0 g a 2) := ⟨by show (lA1 g a).steps ≤ _; rw [HS.out.2.2.2.2]; decide, by show 2 ≤ 9223372036854775807; decide, by show (lA1 g a).loose.length ≤ _; rw [HS.out.2.1]; decide⟩
  have eg : ((g + 1 : Nat) : Int) = (g : Int) + 1 := by omega
  have PH := puthead_ok D4.out tb (by rw [lB0_off]; rfl) (by decide) (by decide) (g + 1) b (by omega) (by have := HH.out.2.1; omega) HH.out.2.2.2
  rw [eg] at PH
  have P2 := Lib.hid PH
  clear hd F2' D3 tb eg PH
  go_wp2_with (fail)
  refine P2.out.mono ?_
  rintro e W5 ⟨rfl, F3, hd⟩
  have ob : (lB0 g a 2).off = false := by rw [lB0_off]; rfl
  have es : (lB0 g a 2).write ((g + 1) % 2) (headB (g + 1) b) = { (lB0 g a 2).step with loose := (lB0 g a 2).loose ++ [((g + 1) % 2, fullB (headB (g + 1) b))] } := DM.write_yes _ ob _ _
  obtain ⟨M5, hM5⟩ : ∃ M5, M5 = (lB0 g a 2).write ((g + 1) % 2) (headB (g + 1) b) := ⟨_, rfl⟩
  rw [← hM5] at hd
  have q1 : M5.safe = (lA1 g a).safe := by rw [hM5, es]; show (lB0 g a 2).step.safe = _; rw [DM.step_safe]; rfl
  have q2 : M5.loose = [((g + 1) % 2, headB (g + 1) b)] := by rw [hM5, es]; show (lA1 g a).loose ++ _ = _; rw [HS.out.2.1, full_headB]; rfl
  have q6 : M5.fuse = some 1 := by rw [hM5, es]; show (lB0 g a 2).step.fuse = _; rw [DM.step_fuse _ ob]; rfl
  have q7 : M5.down = false := by rw [hM5, es]; show (lB0 g a 2).step.down = _; rw [DM.step_down _ ob]; exact HS.out.2.2.1
  have q4 : M5.steps ≤ 5 := by rw [hM5, es]; show (lB0 g a 2).step.steps ≤ 5; rw [DM.step_steps _ ob]; show (lA1 g a).steps + 1 ≤ 5; rw [HS.out.2.2.2.2]; decide
  have q3 : M5.off = false := by unfold DM.off; rw [q6, q7]; rfl
  have D5 := Lib.hid hd
  have t5 : Tame M5 := ⟨by omega, by rw [q6]; decide, by rw [q2]; show 1 ≤ 1099511627776; decide⟩
  have FL := Lib.hid (dflush_ok D5.out t5 q3)
  have ef : M5.flush = { M5.step with safe := M5.now, loose := [] } := DM.flush_yes _ q3
  have hn5 : M5.now = (lA1 g a).safe.set ((g + 1) % 2) (headB (g + 1) b) := by unfold DM.now; rw [q1, q2]; rfl
  rw [ef, hn5] at FL
  have q8 : M5.step.steps ≤ 6 := by rw [DM.step_steps _ q3]; omega
  have q9 : M5.step.fuse = some 0 := by rw [DM.step_fuse _ q3, q6]; rfl
  have HQ := Lib.hid (And.intro q8 q9)
  clear hd P2 D4 es hM5 t5 ef q1 q2 q3 q4 q6 q7 ob hn5 q8 q9
  go_wp2_with (fail)
  refine FL.out.mono ?_
  rintro e W6 ⟨rfl, hd, _⟩
  obtain ⟨M6, hM6⟩ : ∃ M6, M6 = ({ M5.step with safe := (lA1 g a).safe.set ((g + 1) % 2) (headB (g + 1) b), loose := [] } : DM) := ⟨_, rfl⟩
  rw [← hM6] at hd
  have D6 := Lib.hid hd
  have R6 := Lib.hid (show (∀ kp, (M6.crash kp).now = (lA1 g a).safe.set ((g + 1) % 2) (headB (g + 1) b)) ∧ M6.steps ≤ 10 ∧ M6.fuse.getD 0 ≤ 10 ∧ M6.loose.length ≤ 10 from
    ⟨fun kp => by rw [crash_none _ _ (by rw [hM6]), hM6], by rw [hM6]; have := HQ.out.1; show M5.step.steps ≤ 10; omega, by rw [hM6]; show M5.step.fuse.getD 0 ≤ 10; rw [HQ.out.2]; decide, by rw [hM6]; show 0 ≤ 10; decide⟩)
  clear hd FL D5 hM6 HQ
  obtain ⟨g5, cap5, w5, hr5, hT5, hg5, hb5⟩ := appendT_first (w := W6) (c := kc) (HK.out.1.below (below_cat B0.out D6.out.below)) HK.out.2.1 (by have := HK.out.2.2; omega)
  rw [HL.out] at hr5
  have R5 := Lib.hid hr5
  have CR := dcrash (D6.out.on hb5) ⟨by have := R6.out.2.1; omega, by have := R6.out.2.2.1; omega, by have := R6.out.2.2.2; omega⟩ (some ⟨g5, 0, none⟩) keep cap5 hT5 (by have := HK.out.2.2; omega) (fun x e => by injection e with e; rw [← e]; exact D6.out.new hg5)
  rw [HL.out] at CR
  have C1 := Lib.hid CR
  clear hr5 hT5 hg5 hb5 CR
  go_wp2_with (at_builtin; refine wpList_append_wanted (by first | rfl | simp [Region.wanted, yielded]) (.tmp 80) (.tmp 81) 54 rfl _ _ _ _ rfl rfl R5.out ?_)
  refine C1.out.mono ?_
  rintro e W7 ⟨rfl, hd, _⟩
  have D7 := Lib.hid hd
  have hcalm : Calm (M6.crash keep) := ⟨rfl, rfl, by show M6.steps ≤ 1000000; have := R6.out.2.1; omega, by show 0 ≤ 1000000; decide⟩
  have GH := gethead_ok D7.out hcalm (by show M6.steps ≤ 999990; have := R6.out.2.1; omega) (by decide) (by decide)
  have hnow := R6.out.1 keep
  have hac := acc_new (M6.crash keep) g a b HH.out.1 HH.out.2.1 HH.out.2.2.1 HH.out.2.2.2 (by rw [hnow, HS.out.1]; exact (set_get2 g _ _).1) (by rw [hnow, HS.out.1]; exact (set_get2 g _ _).2)
  have G1 := Lib.hid (show Calls Try.prog 58 #[.pointer (some ⟨G, 0, none⟩)] W7 (fun e W' => e = .returned (.tuple #[.agg #[.int .i64 ((g : Int) + 1), .int .u64 (b : Int)], .int .i64 0]) ∧ Below W0.heap.size W0 W') from by
    refine GH.mono fun e W' h => ?_
    unfold GetPost at h
    rw [hac, if_neg (show ¬ g + 1 = 0 by omega)] at h
    exact h)
  clear hd hcalm GH hnow hac C1
  go_wp2_with (fail)
  refine G1.out.mono ?_
  rintro e W8 ⟨rfl, hb⟩
  have B8 := Lib.hid (B0.out.trans (hb.mono B0.out.size))
  clear hb
  go_wp2_with (fail)
  all_goals first
    | (exfalso; omega)
    | (go_ret
       refine ⟨ret_bool (by first | rfl | simp), ?_⟩
       first | exact ((B8.out.alloc B8.out.size _).alloc (by simp; have := B8.out.size; omega) _).alloc (by simp; have := B8.out.size; omega) _)
theorem lasts_walk (n : Int) (a b : Nat) (fu : Int) (p : Option Addr) (keep : List Bool) (kc : Nat) (w : World) (ha : a < 18446744073709551616) (hb : b < 18446744073709551616) (hk : HoldsT w p keep) (hnil : p = none → kc = 0) (hkl : keep.length ≤ 140737488355328) :
    Calls Try.prog 14 #[.int .i64 n, .int .u64 (a : Int), .int .u64 (b : Int), .int .i64 fu, .slice p keep.length kc] w fun e w' => e = .returned (.bool true) ∧ Below w.heap.size w w' := by
  by_cases hn : n < 1 ∨ 4294967295 ≤ n
  · exact lasts_out n a b fu p keep.length kc w hn
  · obtain ⟨g, hg⟩ : ∃ g : Nat, n = (g : Int) := ⟨n.toNat, by omega⟩
    have hU : IntKind.u64.wrap fu % 3 = 0 ∨ IntKind.u64.wrap fu % 3 = 1 ∨ IntKind.u64.wrap fu % 3 = 2 := by omega
    rcases hU with h | h | h
    · exact lasts_0 n g a b hg fu p keep kc w (by omega) (by omega) ha hb hk hnil hkl h
    · exact lasts_1 n g a b hg fu p keep kc w (by omega) (by omega) ha hb hk hnil hkl h
    · exact lasts_2 n g a b hg fu p keep kc w (by omega) (by omega) ha hb hk hnil hkl h
end Go.Proofs.Ytgfdencjhcfljaa
