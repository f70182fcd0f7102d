/- Proved here: what Read answers of the document's drum; what its Write answers where it writes nothing. -/
import Derived.Test.YtlkffignbjpfcaaRDKeep
namespace Go.Proofs.Ytlkffignbjpfcaa
open Go.RowKit

set_option maxHeartbeats 4000000 in
theorem rwrite_off (W : World) (X : Nat → Prop) (R N : Nat) (M : DM) (h : RDrum W X R N M) (hX : X R) (hoff : M.off = true) (n : Nat) (hn : n < N) (p : Option Addr) (len cap : Nat) (hs : len ≤ 64) :
    Calls Try.prog 29 #[.pointer (some ⟨R, 0, none⟩), .int .i64 (n : Int), .slice p len cap] W fun e W' => e = .returned (.int .i64 9) ∧ RDrum W' X R N M.step ∧ Touch (Only R) W W' := by
  have ST := Lib.hid (rstep_off W X R N M h hX hoff)
  obtain ⟨s0, q0, cS0, cL0, Vs0, Ws0, hd⟩ := h
  have c0 := hd.cells.1
  have hn0 : (0 : Int) ≤ (n : Int) := by omega
  have hnN : ¬ (n : Int) < 0 := by omega
  have hn1 : (n : Int) < (N : Int) := by omega
  have hs1 : (len : Int) ≤ 64 := by omega
  clear hd hX hoff
  go_enter Try.func29, Try.ntmps29
  go_wp2_with (fail)
  all_goals try (exfalso; omega)
  refine (ST.out).mono ?_
  rintro e W1 ⟨rfl, hD, hT, hz⟩
  have HD := Lib.hid (And.intro hD hT)
  clear hD hT hz
  go_wp2_with (fail)
  go_ret
  exact ⟨rfl, HD.out.1, HD.out.2⟩
set_option maxHeartbeats 4000000 in
theorem rwrite_long (W : World) (X : Nat → Prop) (R N : Nat) (M : DM) (h : RDrum W X R N M) (n : Nat) (hn : n < N) (p : Option Addr) (len cap : Nat) (hs : 64 < len) :
    Calls Try.prog 29 #[.pointer (some ⟨R, 0, none⟩), .int .i64 (n : Int), .slice p len cap] W fun e W' => e = .returned (.int .i64 6) ∧ W = W' := by
  obtain ⟨s0, q0, cS0, cL0, Vs0, Ws0, hd⟩ := h
  have c0 := hd.cells.1
  have hn0 : (0 : Int) ≤ (n : Int) := by omega
  have hnN : ¬ (n : Int) < 0 := by omega
  have hn1 : (n : Int) < (N : Int) := by omega
  have hs1 : (64 : Int) < (len : Int) := by omega
  clear hd
  go_enter Try.func29, Try.ntmps29
  go_wp2_with (fail)
  all_goals try (exfalso; omega)
  go_ret
  exact ⟨rfl, rfl⟩
set_option maxHeartbeats 4000000 in
theorem rwrite_arg (W : World) (X : Nat → Prop) (R N : Nat) (M : DM) (h : RDrum W X R N M) (n : Int) (hn : n < 0 ∨ (N : Int) ≤ n) (p : Option Addr) (len cap : Nat) :
    Calls Try.prog 29 #[.pointer (some ⟨R, 0, none⟩), .int .i64 n, .slice p len cap] W fun e W' => e = .returned (.int .i64 1) ∧ W = W' := by
  obtain ⟨s0, q0, cS0, cL0, Vs0, Ws0, hd⟩ := h
  have c0 := hd.cells.1
  clear hd
  rcases hn with hn | hn
  · go_enter Try.func29, Try.ntmps29
    go_wp2_with (fail)
    all_goals first | (exfalso; omega) | (go_ret; exact ⟨rfl, rfl⟩)
  · have hn0 : ¬ n < 0 := by omega
    go_enter Try.func29, Try.ntmps29
    go_wp2_with (fail)
    all_goals first | (exfalso; omega) | (go_ret; exact ⟨rfl, rfl⟩)
set_option maxHeartbeats 4000000 in
theorem rread_off (W : World) (X : Nat → Prop) (R N : Nat) (M : DM) (h : RDrum W X R N M) (hX : X R) (hoff : M.off = true) (n : Nat) (hn : n < N) :
    Calls Try.prog 27 #[.pointer (some ⟨R, 0, none⟩), .int .i64 (n : Int)] W fun e W' => e = .returned (.tuple #[.slice none 0 0, .int .i64 9]) ∧ RDrum W' X R N M.step ∧ Touch (Only R) W W' := by
  have ST := Lib.hid (rstep_off W X R N M h hX hoff)
  obtain ⟨s0, q0, cS0, cL0, Vs0, Ws0, hd⟩ := h
  have c0 := hd.cells.1
  have hn0 : (0 : Int) ≤ (n : Int) := by omega
  have hnN : ¬ (n : Int) < 0 := by omega
  have hn1 : (n : Int) < (N : Int) := by omega
  clear hd hX hoff
  go_enter Try.func27, Try.ntmps27
  go_wp2_with (fail)
  all_goals try (exfalso; omega)
  refine (ST.out).mono ?_
  rintro e W1 ⟨rfl, hD, hT, hz⟩
  have HD := Lib.hid (And.intro hD hT)
  clear hD hT hz
  go_wp2_with (fail)
  go_ret2
  exact ⟨rfl, HD.out.1, HD.out.2⟩
set_option maxHeartbeats 4000000 in
theorem rread_arg (W : World) (X : Nat → Prop) (R N : Nat) (M : DM) (h : RDrum W X R N M) (n : Int) (hn : n < 0 ∨ (N : Int) ≤ n) :
    Calls Try.prog 27 #[.pointer (some ⟨R, 0, none⟩), .int .i64 n] W fun e W' => e = .returned (.tuple #[.slice none 0 0, .int .i64 1]) ∧ W = W' := by
  obtain ⟨s0, q0, cS0, cL0, Vs0, Ws0, hd⟩ := h
  have c0 := hd.cells.1
  clear hd
  rcases hn with hn | hn
  · go_enter Try.func27, Try.ntmps27
    go_wp2_with (fail)
    all_goals first | (exfalso; omega) | (go_ret2; exact ⟨rfl, rfl⟩)
  · have hn0 : ¬ n < 0 := by omega
    go_enter Try.func27, Try.ntmps27
    go_wp2_with (fail)
    all_goals first | (exfalso; omega) | (go_ret2; exact ⟨rfl, rfl⟩)
def RReadOk (W : World) (X : Nat → Prop) (R N : Nat) (M : DM) (row : ByteArray) (e : Ending) (W' : World) : Prop :=
  ∃ g cap, e = .returned (.tuple #[.slice (some ⟨g, 0, none⟩) 64 cap, .int .i64 0]) ∧ HoldsB W' (some ⟨g, 0, none⟩) row ∧ row.size = 64 ∧ W.heap.size ≤ g ∧ RDrum W' X R N M.step ∧ Touch (Only R) W W'
def RdRel (W : World) (X : Nat → Prop) (M : DM) (n m : Nat) (b v : Value) (wr : World) : Prop :=
  ∃ j : Nat, v = .int .i64 (j : Int) ∧ j ≤ m ∧ ∃ gv cv, b = .slice (some ⟨gv, 0, none⟩) 64 cv ∧ Hid (RowOut wr X (.slice (some ⟨gv, 0, none⟩) 64 cv) ((layM M.safe (M.loose.take j)).getD n ⟨#[]⟩) ∧ Below W.heap.size W wr)
theorem rout_form {W : World} {X : Nat → Prop} {v : Value} {row : ByteArray} (h : RowOut W X v row) : ∃ gv cv, v = .slice (some ⟨gv, 0, none⟩) 64 cv := by
  obtain ⟨g', c', _, e', _⟩ := h
  exact ⟨g', c', e'⟩
set_option maxRecDepth 100000 in
set_option maxHeartbeats 8000000 in
theorem rread_ok (W : World) (X : Nat → Prop) (R N : Nat) (M : DM) (h : RDrum W X R N M) (hX : X R) (ht : Tame M) (hoff : M.off = false) (n : Nat) (hn : n < N) :
    Calls Try.prog 27 #[.pointer (some ⟨R, 0, none⟩), .int .i64 (n : Int)] W (RReadOk W X R N M (M.now.getD n ⟨#[]⟩)) := by
  obtain ⟨row, hrow⟩ : ∃ row, M.now.getD n ⟨#[]⟩ = row := ⟨_, rfl⟩
  rw [hrow]
  have HROW := Lib.hid hrow
  have ST := Lib.hid (rstep_ok W X R N M h hX ht hoff)
  have HH := Lib.hid (And.intro hn (And.intro ht.loose hX))
  have c0 : ∃ s0 cS0, W.cell? ⟨R, 0, none⟩ = some (.slice s0 N cS0) := by
    obtain ⟨s0, q0, cS0, cL0, Vs0, Ws0, hd⟩ := h
    exact ⟨s0, cS0, hd.cells.1⟩
  obtain ⟨s0, cS0, c0⟩ := c0
  have hn0 : (0 : Int) ≤ (n : Int) := by omega
  have hnN : ¬ (n : Int) < 0 := by omega
  have hn1 : (n : Int) < (N : Int) := by omega
  clear h hX ht hoff hrow
  go_enter Try.func27, Try.ntmps27
  go_wp2_with (fail)
  all_goals try (exfalso; omega)
  refine (ST.out).mono ?_
  rintro e W1 ⟨rfl, hD, hT, hz⟩
  obtain ⟨s, q, cS, cL, Vs, Ws, hd⟩ := hD
  have e0 := hd.cells.1
  have e1 := hd.cells.2.1
  rw [DM.step_loose] at e1
  obtain ⟨v, hv, hro⟩ := hd.rows n (by rw [hd.ok.len]; exact hn)
  obtain ⟨gv, cv, rfl⟩ := rout_form hro
  have hsn : ∃ gs, s = some ⟨gs, 0, none⟩ ∧ N ≤ cS ∧ W1.cell? ⟨gs, n, none⟩ = some (.slice (some ⟨gv, 0, none⟩) 64 cv) := by
    rcases hd.safe.2 with ⟨e1, e2⟩ | ⟨g', c', cur, e1, _, _, hle, _⟩
    · omega
    · injection e1 with e1 e2 e3
      refine ⟨g', e1, by omega, ?_⟩
      have h1 := hd.safe
      rw [e1] at h1
      rw [World.ownsRow.cellAt h1 n (by omega), hv]
  obtain ⟨gs, rfl, hNc, e2⟩ := hsn
  have hNc' : (N : Int) ≤ (cS : Int) := by omega
  have hsafe : M.step.safe[n]'(by rw [hd.ok.len]; exact hn) = (layM M.safe (M.loose.take 0)).getD n ⟨#[]⟩ := by
    show _ = M.safe.getD n ⟨#[]⟩
    rw [List.getD_eq_getElem?_getD, List.getElem?_eq_getElem (by rw [← DM.step_safe M, hd.ok.len]; exact hn)]
    simp only [DM.step_safe, Option.getD_some]
  rw [hsafe] at hro
  obtain ⟨L, hL⟩ : ∃ L, M.loose.length = L := ⟨_, rfl⟩
  have hLi : (L : Int) ≤ 1099511627776 := by have := HH.out.2.1; omega
  rw [hL] at e1
  have HL := Lib.hid hL
  have HD := Lib.hid hd
  have HT := Lib.hid (And.intro hT hro)
  clear hd hT hz hv hro hsafe hL hNc hn
  go_wp2_with (fail)
  go_loopw [6, 35] (fun b v wr => RdRel W1 X M n L b v wr) (fun _ v _ => L - (intOf v).toNat)
  case atStart => exact ⟨0, rfl, Nat.zero_le _, gv, cv, rfl, Lib.hid ⟨HT.out.2, Below.refl _ _⟩⟩
  case round =>
    obtain ⟨j, rfl, hj, gb, cb, rfl, HR⟩ := hrel
    by_cases hlt : j < L
    · have hHJ := Lib.hid hlt
      obtain ⟨gl, v, eq, hlc, d0, d1, hro⟩ := HD.out.write (j := j) (by rw [DM.step_loose, HL.out]; exact hlt)
      obtain ⟨g2, c2, rfl⟩ := rout_form hro
      have hjl : j < M.loose.length := by rw [HL.out]; exact hlt
      have ex : M.step.loose[j]'(by rw [DM.step_loose]; exact hjl) = M.loose[j] := by simp only [DM.step_loose]
      rw [ex] at d0 hro
      obtain ⟨x, hx⟩ : ∃ x, M.loose[j] = x := ⟨_, rfl⟩
      rw [hx] at d0 hro
      have d0' := hb_cell HR.out.2 d0
      have d1' := hb_cell HR.out.2 d1
      obtain ⟨a, ha⟩ : ∃ a, x.1 = a := ⟨_, rfl⟩
      rw [ha] at d0'
      have hro' : RowOut (wr.alloc (.cells #[.int .i64 (a : Int), .slice (some ⟨g2, 0, none⟩) 64 c2] 107)) X (.slice (some ⟨g2, 0, none⟩) 64 c2) x.2 := (hro.keep fun b cur hf hh => ⟨HR.out.2.block b (block_lt hh), hf⟩ : RowOut wr X _ x.2).keep fun b cur hf hh => ⟨Below.heap_alloc wr _ b (block_lt hh), hf⟩
      have hold : RowOut (wr.alloc (.cells #[.int .i64 (a : Int), .slice (some ⟨g2, 0, none⟩) 64 c2] 107)) X (.slice (some ⟨gb, 0, none⟩) 64 cb) ((layM M.safe (M.loose.take j)).getD n ⟨#[]⟩) := HR.out.1.keep fun b cur hf hh => ⟨Below.heap_alloc wr _ b (block_lt hh), hf⟩
      have hst : layM M.safe (M.loose.take (j + 1)) = (layM M.safe (M.loose.take j)).set x.1 x.2 := by
        rw [take_snoc' M.loose j hjl, hx]
        exact layM_snoc _ _ _ _
      have HQ := Lib.hid (And.intro hro' (And.intro hold (And.intro hst ha)))
      have hlt' : (j : Int) < (L : Int) := by omega
      have hlen : Hid (n < (layM M.safe (M.loose.take j)).length) := Lib.hid (by rw [layM_length]; have := HD.out.ok.len; rw [DM.step_safe] at this; rw [this]; exact HH.out.1)
      subst eq
      clear d0 d1 hro hro' hold hst ha hlc ex
      by_cases han : a = n
      · have t0 : ((a : Int) == (n : Int)) = true := by rw [han, beq_iff_eq]
        have HAN := Lib.hid han
        clear han
        go_wp2_with (fail)
        go_round
        case rel =>
          refine ⟨j + 1, by go_num, by have := hHJ.out; omega, g2, c2, rfl, Lib.hid ⟨?_, HR.out.2.alloc HR.out.2.size _⟩⟩
          rw [HQ.out.2.2.1, HQ.out.2.2.2, HAN.out, List.getD_eq_getElem?_getD, List.getElem?_set_self hlen.out]
          have hq := HQ.out.1
          rw [HAN.out] at hq
          exact hq
        case measure => have := hHJ.out; simp [intOf]; omega
      · have t0 : ((a : Int) == (n : Int)) = false := by rw [beq_eq_false_iff_ne]; omega
        have HAN := Lib.hid han
        clear han
        go_wp2_with (fail)
        go_round
        case rel =>
          refine ⟨j + 1, by go_num, by have := hHJ.out; omega, gb, cb, rfl, Lib.hid ⟨?_, HR.out.2.alloc HR.out.2.size _⟩⟩
          rw [HQ.out.2.2.1, HQ.out.2.2.2, List.getD_eq_getElem?_getD, List.getElem?_set_ne HAN.out, ← List.getD_eq_getElem?_getD]
          exact HQ.out.2.1
        case measure => have := hHJ.out; simp [intOf]; omega
    · obtain rfl : j = L := by omega
      have hr := HR.out.1
      rw [List.take_of_length_le (by rw [HL.out]; exact Nat.le_refl _)] at hr
      have e9 : (layM M.safe M.loose).getD n ⟨#[]⟩ = row := HROW.out
      rw [e9] at hr
      obtain ⟨g', c', e', _, hB, hs64⟩ := hr.holds
      injection e' with e1' e2' e3'
      injection e1' with e1'
      injection e1' with e1'
      subst e1'
      obtain ⟨g5, k5, w5, hr5, ho5, hb5, _⟩ := append_first (w := wr) (c := cb) hB (fun h => by cases h) (by omega)
      rw [hs64] at hr5
      have HR5 := Lib.hid hr5
      have H5 := Lib.hid (And.intro ho5 (And.intro hb5 hs64))
      clear hr hr5 ho5 hb5 hs64 hB e9 e2' e3'
      go_wp2_with (at_builtin; refine wpList_append_eq rfl _ _ _ rfl _ _ _ _ rfl rfl HR5.out ?_)
      go_ret2
      have hb15 := HR.out.2.trans (H5.out.2.1.mono HR.out.2.size)
      have hrd : RDrum W1 X R N M.step := ⟨_, _, _, _, _, _, HD.out⟩
      refine ⟨g5, k5, rfl, H5.out.1.holds, H5.out.2.2, ?_, hrd.touch (Y := fun _ => False) (Touch.of_below hb15) (fun _ hf => hf.elim) (hb15.block R (block_lt HD.out.blk)) (fun k hk => .inl hk) (fun k hk => Nat.lt_of_lt_of_le (HD.out.lt k hk) hb15.size), HT.out.1.trans (Touch.of_below (F := Only R) hb15) (fun k hk => .inl hk)⟩
      have := H5.out.1.2.1
      have := HR.out.2.size
      have := HT.out.1.size
      omega
end Go.Proofs.Ytlkffignbjpfcaa
