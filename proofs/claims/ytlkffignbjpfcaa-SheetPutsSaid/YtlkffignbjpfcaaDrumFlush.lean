/- Proved here: what Flush makes of a drum. -/
import Derived.Test.YtlkffignbjpfcaaDrumHalf
namespace Go.Proofs.Ytlkffignbjpfcaa
open Go.RowKit

theorem step_ok (W : World) (F : Nat → Prop) (G N : Nat) (M : DM) (h : Drum W F G N M) (hst : M.steps ≤ 4611686018427387904) (hfu : M.fuse.getD 0 ≤ 9223372036854775807) (hoff : M.off = false) :
    Calls Try.prog 54 #[.pointer (some ⟨G, 0, none⟩)] W fun e W' => e = .returned (.int .i64 0) ∧ Drum W' F G N M.step ∧ Touch (Only G) W W' ∧ W'.heap.size = W.heap.size :=
  (step_any W F G N M h hst hfu).mono fun e W' ⟨h1, h2, h3, h4⟩ => ⟨by rw [h1, hoff]; rfl, h2, h3, h4⟩
theorem step_off (W : World) (F : Nat → Prop) (G N : Nat) (M : DM) (h : Drum W F G N M) (hst : M.steps ≤ 4611686018427387904) (hfu : M.fuse.getD 0 ≤ 9223372036854775807) (hoff : M.off = true) :
    Calls Try.prog 54 #[.pointer (some ⟨G, 0, none⟩)] W fun e W' => e = .returned (.int .i64 9) ∧ Drum W' F G N M.step ∧ Touch (Only G) W W' ∧ W'.heap.size = W.heap.size :=
  (step_any W F G N M h hst hfu).mono fun e W' ⟨h1, h2, h3, h4⟩ => ⟨by rw [h1, hoff]; rfl, h2, h3, h4⟩
theorem DrumAt.half {W : World} {F : Nat → Prop} {G N : Nat} {M : DM} {gn gs cn cs : Nat} {q : Option Addr} {c : Nat} (h : DrumAt W F G N M gn gs cn cs q c) :
    HalfAt W G N M.now M.safe M.loose (.int .i64 (M.steps : Int)) (.bool M.fuse.isSome) (.int .i64 ((M.fuse.getD 0 : Nat) : Int)) (.bool M.down) gn gs cn cs q c :=
  ⟨h.blk, h.now, h.safe, h.loose, h.ok.at_, h.apart, h.big⟩
theorem only_F {F : Nat → Prop} {G : Nat} (h : F G) : ∀ k, Only G k → F k := fun k e => by
  have e' : k = G := e
  subst e'
  exact h
/-- The end of a Flush or a Crash: nothing is loose, all is as it stands. -/
theorem HalfAt.done {W W' : World} {F : Nat → Prop} {G N : Nat} {nw sf : List ByteArray} {lo : List (Nat × ByteArray)} {x3 x4 x5 x6 : Value} {gn gs cn cs : Nat} {q : Option Addr} {c : Nat} (h : HalfAt W G N nw sf lo x3 x4 x5 x6 gn gs cn cs q c)
    (M : DM) (hok : M.Ok N) (hs : M.safe = sf) (hl : M.loose = []) (hnw : nw = sf) (fG : F G) (fn : F gn) (fs : F gs) (lt : ∀ k, F k → k < W.heap.size) (ho : ∀ k, k ≠ G → W'.heap[k]? = W.heap[k]?) (hz : W'.heap.size = W.heap.size)
    (hb : W'.heap[G]? = some (.cells #[.slice (some ⟨gn, 0, none⟩) N cn, .slice (some ⟨gs, 0, none⟩) N cs, .slice none 0 0, .int .i64 (M.steps : Int), .bool M.fuse.isSome, .int .i64 ((M.fuse.getD 0 : Nat) : Int), .bool M.down] 76)) : Drum W' F G N M := by
  have e : M.now = M.safe := by unfold DM.now; rw [hl]; rfl
  refine ⟨gn, gs, cn, cs, none, 0, ⟨by rw [hl]; exact hb, hok, ?_, ?_, ?_, fG, fn, fs, ?_, by rw [hz]; exact lt, ⟨h.apart.1, h.apart.2.1, h.apart.2.2.1, ?_⟩, h.big, fun _ => rfl⟩⟩
  · rw [e, hs, ← hnw]; exact h.now.block (ho gn (fun e => h.apart.1 e.symm))
  · rw [hs]; exact h.safe.block (ho gs (fun e => h.apart.2.1 e.symm))
  · rw [hl]; exact World.ownsRow_nil _ _ _ _
  · intro k hk; cases hk
  · intro k hk; cases hk
def FlushRel (W1 : World) (G N : Nat) (M : DM) (x3 x4 x5 x6 : Value) (gn gs cn cs : Nat) (q : Option Addr) (c L : Nat) (v : Value) (wr : World) : Prop :=
  ∃ j : Nat, v = .int .i64 (j : Int) ∧ j ≤ L ∧ Hid (HalfAt wr G N M.now (layM M.safe (M.loose.take j)) M.loose x3 x4 x5 x6 gn gs cn cs q c ∧ Touch (Only gs) W1 wr)
set_option maxRecDepth 100000 in
set_option maxHeartbeats 8000000 in
theorem flush_ok (W : World) (F : Nat → Prop) (G N : Nat) (M : DM) (h : Drum W F G N M) (hst : M.steps ≤ 4611686018427387904) (hfu : M.fuse.getD 0 ≤ 9223372036854775807) (hoff : M.off = false) (hlo : M.loose.length ≤ 4611686018427387904) :
    Calls Try.prog 24 #[.pointer (some ⟨G, 0, none⟩)] W fun e W' => e = .returned (.int .i64 0) ∧ Drum W' F G N M.flush ∧ Touch F W W' := by
  have ST := Lib.hid (step_ok W F G N M h hst hfu hoff)
  have HO := Lib.hid hoff
  clear h hst hfu hoff
  go_enter Try.func24, Try.ntmps24
  go_wp2_with (fail)
  refine (ST.out).mono ?_
  rintro e W1 ⟨rfl, hD, hT, hz⟩
  obtain ⟨gn, gs, cn, cs, q, c, hd⟩ := hD
  have hh := hd.half
  rw [M.step_now, M.step_safe, M.step_loose] at hh
  have hb := hh.blk
  have c2 : W1.cell? ⟨G, 2, none⟩ = some (.slice q M.loose.length c) := by rw [cell_of_row _ _ _ _ _ _ hb]; rfl
  have HH := Lib.hid hh
  have HD := Lib.hid hd
  have HT := Lib.hid hT
  have HZ := Lib.hid hz
  obtain ⟨L, hL⟩ : ∃ L, M.loose.length = L := ⟨_, rfl⟩
  rw [hL] at c2 hlo
  have hlo' : (L : Int) ≤ 4611686018427387904 := by omega
  have HL := Lib.hid hL
  clear hh hb hd hT hz hL ST
  go_wp2_with (fail)
  go_loopw [17] (fun v wr => FlushRel W1 G N M (.int .i64 (M.step.steps : Int)) (.bool M.step.fuse.isSome) (.int .i64 ((M.step.fuse.getD 0 : Nat) : Int)) (.bool M.step.down) gn gs cn cs q c L v wr) (fun v _ => L - (intOf v).toNat)
  case atStart => exact ⟨0, rfl, Nat.zero_le _, Lib.hid ⟨HH.out, Touch.refl _ _⟩⟩
  case round =>
    obtain ⟨j, rfl, hj, HR⟩ := hrel
    by_cases hlt : j < L
    · have SD := Lib.hid (stand_any HR.out.1 (k := j) (by rw [HL.out]; exact hlt))
      have HJ := Lib.hid hlt
      go_wp2_with (fail)
      refine (SD.out).mono ?_
      rintro e w3 ⟨rfl, h3, t3⟩
      have HN := Lib.hid (And.intro h3 t3)
      clear h3 t3 SD
      go_wp2_with (fail)
      go_round
      case rel =>
        refine ⟨j + 1, by go_num, by omega, Lib.hid ⟨?_, ?_⟩⟩
        · have h3 := HN.out.1
          rw [take_snoc' M.loose j (by rw [HL.out]; exact HJ.out), layM_snoc]
          exact h3
        · exact HR.out.2.trans HN.out.2 (fun k hk => .inl hk)
      case measure => simp [intOf]; omega
    · obtain rfl : j = L := by omega
      have hb := HR.out.1.blk
      have d2 : wr.cell? ⟨G, 2, none⟩ = some (.slice q M.loose.length c) := by rw [cell_of_row _ _ _ _ _ _ hb]; rfl
      have f2 : wr.frozen? ⟨G, 2, none⟩ = false := frozen_of_row _ _ _ _ _ hb
      clear hb
      go_wp2_with (fail)
      go_ret
      have hr := HR.out
      rw [List.take_of_length_le (by rw [HL.out]; exact Nat.le_refl _)] at hr
      have hm : M.flush = { M.step with safe := M.now, loose := [] } := by unfold DM.flush; rw [HO.out]; rfl
      refine ⟨rfl, ?_, ?_⟩
      · rw [hm]
        refine hr.1.done _ ?_ rfl rfl rfl HD.out.fG HD.out.fn HD.out.fs (fun k hk => Nat.lt_of_lt_of_le (HD.out.lt k hk) hr.2.size) set_other set_size (u_row (k := 2) (.slice none 0 0) hr.1.blk)
        have := HD.out.ok
        exact ⟨by have := hr.1.now.len; exact this, fun p hp => by
          obtain ⟨i, hi, rfl⟩ := List.getElem_of_mem hp
          exact (hr.1.now.row i hi).1, fun x hx => by cases hx⟩
      · have t1 := (HT.out.mono (only_F HD.out.fG)).trans (hr.2.mono (only_F HD.out.fs)) (fun k hk => .inl hk)
        exact t1.set (p := ⟨G, 2, none⟩) HD.out.fG _
set_option maxHeartbeats 2000000 in
theorem flush_off (W : World) (F : Nat → Prop) (G N : Nat) (M : DM) (h : Drum W F G N M) (hst : M.steps ≤ 4611686018427387904) (hfu : M.fuse.getD 0 ≤ 9223372036854775807) (hoff : M.off = true) :
    Calls Try.prog 24 #[.pointer (some ⟨G, 0, none⟩)] W fun e W' => e = .returned (.int .i64 9) ∧ Drum W' F G N M.flush ∧ Touch F W W' := by
  have ST := Lib.hid (step_off W F G N M h hst hfu hoff)
  have hm : M.flush = M.step := by unfold DM.flush; rw [hoff]; rfl
  rw [hm]
  obtain ⟨gn, gs, cn, cs, q, c, hd⟩ := h
  have hF := Lib.hid hd.fG
  clear hd hst hfu hoff hm
  go_enter Try.func24, Try.ntmps24
  go_wp2_with (fail)
  refine (ST.out).mono ?_
  rintro e W1 ⟨rfl, hD, hT, hz⟩
  have HD := Lib.hid (And.intro hD hT)
  clear hD hT hz ST
  go_wp2_with (fail)
  go_ret
  exact ⟨rfl, HD.out.1, HD.out.2.mono (only_F hF.out)⟩
end Go.Proofs.Ytlkffignbjpfcaa
