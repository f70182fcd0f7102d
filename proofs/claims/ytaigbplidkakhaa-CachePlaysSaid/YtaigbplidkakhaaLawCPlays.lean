/- Proved here: the law CachePlays. -/
import Derived.Test.YtaigbplidkakhaaCPlays
import Derived.Test.YtaigbplidkakhaaCNewBad
import Derived.Test.YtaigbplidkakhaaCSame
import Derived.Test.YtaigbplidkakhaaCAwake
import Derived.Test.YtaigbplidkakhaaCOpArg
import Derived.Deep.DeepCutAuto
import Derived.Deep.CutBlock
namespace Go.Proofs.Ytaigbplidkakhaa
open Go.RowKit Go.ChangeMaps

theorem held_mono' {P : Program} {md : Region.Mode} {ops : Array Oper} {Q : Exit → Act → World → Prop} {S S' : World → Prop} (hS : ∀ w, S' w → S w) : ∀ (fuel : Nat) (listed : Array Bool) (a : Act) (w : World), wpAnyH P md ops Q S' fuel listed a w → wpAnyH P md ops Q S fuel listed a w
  | 0, _, _, _, h => h
  | fuel + 1, _, _, _, h => ⟨h.1, fun i hi => wpOp_mono (fun a' w' h' => ⟨hS _ h'.1, held_mono' hS fuel _ a' w' h'.2⟩) (h.2 i hi)⟩
theorem ksOf_all (l : List EntI) : ksOf true l = l.map (·.k) := by
  unfold ksOf
  rw [List.filter_eq_self.2 (fun e _ => by simp)]
theorem ksOf_dirty (l : List EntI) : ksOf false l = (l.filter (·.d)).map (·.k) := by
  unfold ksOf
  simp
/-- The program's keys and the document's, asked in either order, are the same rows. -/
theorem PR.keysP {B : Nat} {W : World} {M F : Nat → Prop} {C R : Nat} {places : Int} {i : Nat} {l : List EntI} (h : PR B W M F C R places i l l) :
    Calls Try.prog 10 #[PV C] W fun x W' => ∃ q c, x = .returned (.slice q (ksOf true l).length c) ∧ (HoldsI W' q (ksOf true l) ∧ (ksOf true l).length ≤ c) ∧ Below W.heap.size W W' := by
  obtain ⟨nb, _, hc⟩ := h.cs
  have := allKeys hc
  rw [← ksOf_all] at this
  exact this.mono (fun x W' ⟨q, c, h1, h2, h3⟩ => ⟨q, c, h1, ⟨h2.holds, h2.2.2⟩, h3⟩)
theorem PR.dirtyP {B : Nat} {W : World} {M F : Nat → Prop} {C R : Nat} {places : Int} {i : Nat} {l : List EntI} (h : PR B W M F C R places i l l) :
    Calls Try.prog 12 #[PV C] W fun x W' => ∃ q c, x = .returned (.slice q (ksOf false l).length c) ∧ (HoldsI W' q (ksOf false l) ∧ (ksOf false l).length ≤ c) ∧ Below W.heap.size W W' := by
  obtain ⟨nb, _, hc⟩ := h.cs
  have := allDirty hc
  rw [← ksOf_dirty] at this
  exact this.mono (fun x W' ⟨q, c, h1, h2, h3⟩ => ⟨q, c, h1, ⟨h2.holds, h2.2.2⟩, h3⟩)
theorem PR.keysR {B : Nat} {W : World} {M F : Nat → Prop} {C R : Nat} {places : Int} {i : Nat} {l : List EntI} (h : PR B W M F C R places i l l) (al : Bool) :
    Calls Try.prog 11 #[PV R, .bool al] W fun x W' => ∃ q c, x = .returned (.slice q (ksOf al l).length c) ∧ (HoldsI W' q (ksOf al l) ∧ (ksOf al l).length ≤ c) ∧ Below W.heap.size W W' := by
  exact (refKeys h.rc h.len al).mono (fun x W' ⟨q, c, h1, h2, h3⟩ => ⟨q, c, h1, ⟨h2.holds, h2.2.2⟩, h3⟩)
theorem same_self {p q : Option Addr} {l : List Int} {c d : Nat} {w : World} (hl : l.length ≤ 65536) (h1 : HoldsI w p l ∧ l.length ≤ c) (h2 : HoldsI w q l ∧ l.length ≤ d) :
    Calls Try.prog 9 #[.slice p l.length c, .slice q l.length d] w fun e w' => e = .returned (.bool true) ∧ Below w.heap.size w w' := by
  have h := sameInts_any p q l l c d w (by omega) (by omega) h1.2 h2.2 h1.1 h2.1
  rw [decide_eq_true rfl] at h
  exact h
theorem ks_len {B : Nat} {W : World} {M F : Nat → Prop} {C R : Nat} {places : Int} {i : Nat} {l : List EntI} (h : PR B W M F C R places i l l) (al : Bool) : (ksOf al l).length ≤ 65536 := Nat.le_trans (ksOf_length al l) h.len
theorem PR.lenP {B : Nat} {W : World} {M F : Nat → Prop} {C R : Nat} {places : Int} {i : Nat} {l : List EntI} (h : PR B W M F C R places i l l) :
    Calls Try.prog 13 #[PV C] W fun x W' => x = .returned (.int .i64 (l.length : Int)) ∧ W = W' := by
  obtain ⟨nb, _, hc⟩ := h.cs
  exact lenI hc
/-- What the law's loop keeps. -/
def LoopC (W : World) (C R : Nat) (places : Int) (j : Nat) (wr : World) : Prop := ∃ M F l, PR W.heap.size wr M F C R places j l l ∧ Below W.heap.size W wr ∧ ∀ e ∈ l, e.p ≤ j
set_option maxRecDepth 100000 in
set_option maxHeartbeats 64000000 in
theorem cachePlays_any (n : Int) (bn : -9223372036854775808 ≤ n ∧ n ≤ 9223372036854775807) (p : Option Addr) (l : List OpC) (c : Nat) (W : World) (hl : l.length ≤ 140737488351232) (h : HoldsOps W p l) :
    Calls Try.prog 3 #[.int .i64 n, .slice p l.length c] W fun x W' => x = .returned (.bool true) ∧ Below W.heap.size W W' := by
  have HA := Lib.hid h
  clear h
  by_cases hr : n < 1 ∨ 65536 < n
  · have AR := Lib.hid (fun W => newBadI n hr W)
    go_enter Try.func3, Try.ntmps3
    go_wp2_with (fail)
    refine (awake_any W).mono ?_
    rintro x W1 ⟨rfl, b1⟩
    have H1 := Lib.hid b1
    clear b1
    go_wp2_with (fail)
    refine (AR.out _).mono ?_
    rintro e w2 ⟨rfl, rfl⟩
    rcases hr with hz | hz
    · go_wp2_with (fail)
      go_ret
      exact ⟨ret_b' (by simp), H1.out⟩
    · have hz1 : ¬ n < 1 := by omega
      go_wp2_with (fail)
      go_ret
      exact ⟨ret_b' (by simp), H1.out⟩
  have g1 : 1 ≤ n := by omega
  have g2 : n ≤ 65536 := by omega
  have i1 : ¬ n < 1 := by omega
  have i2 : ¬ (65536 : Int) < n := by omega
  clear hr bn
  go_enter Try.func3, Try.ntmps3
  go_wp2_with (fail)
  refine (awake_any W).mono ?_
  rintro x W1 ⟨rfl, b1⟩
  have H1 := Lib.hid b1
  clear b1
  go_wp2_with (fail)
  refine (newI n g1 g2 W1).mono ?_
  rintro x W2 ⟨C, rfl, s2, b2⟩
  have hx2 := heap_alloc_new W2 (.cells #[.int .i64 n, .slice none 0 0] 31)
  have b3 : Below W2.heap.size W2 (W2.alloc (.cells #[.int .i64 n, .slice none 0 0] 31)) := (Below.refl _ _).alloc (Nat.le_refl _) _
  have P0 : PR W.heap.size (W2.alloc (.cells #[.int .i64 n, .slice none 0 0] 31)) (fun k => W1.heap.size ≤ k ∧ k < W2.heap.size) (fun k => k = W2.heap.size) C W2.heap.size n 0 [] [] := by
    refine ⟨⟨0, Nat.le_refl _, s2.tch (Tch.of_below (F := fun _ => False) b3) (fun _ _ => id)⟩, ⟨none, 0, hx2, World.ownsRow_nil _ _ _ _, rfl, (fun k hk => by cases hk), Nat.le_refl _⟩, fun k hk e => ?_, fun k hk => ⟨Nat.le_trans H1.out.size hk.1, ?_⟩, fun k hk => ⟨?_, ?_⟩, ?_⟩
    · have e' : k = W2.heap.size := e
      omega
    · have := hk.2
      rw [World.size_alloc]
      omega
    · have e' : k = W2.heap.size := hk
      have := b2.size
      have := H1.out.size
      omega
    · have e' : k = W2.heap.size := hk
      rw [World.size_alloc]
      omega
    · have := b2.size
      have := H1.out.size
      rw [World.size_alloc]
      omega
  have H2 := Lib.hid (show LoopC W C W2.heap.size n 0 (W2.alloc (.cells #[.int .i64 n, .slice none 0 0] 31)) from ⟨_, _, _, P0, bcat (bcat H1.out b2) b3, fun _ h => by simp at h⟩)
  clear s2 b2 b3 P0 hx2 i1 i2
  have i1 : ¬ n < 1 := by omega
  have i2 : ¬ (65536 : Int) < n := by omega
  obtain ⟨L, hL⟩ : ∃ L, l.length = L := ⟨_, rfl⟩
  have HL := Lib.hid hL
  rw [hL] at hl ⊢
  clear hL
  go_wp2_with (fail)
  generalize hR : W2.heap.size = R at H2 ⊢
  clear hR
  go_loopw [40] (fun v wr => ∃ j : Nat, v = .int .i64 (j : Int) ∧ j ≤ L ∧ Hid' (LoopC W C R n j wr)) (fun v _ => L - (intOf v).toNat)
  case atStart => exact ⟨0, rfl, Nat.zero_le _, H2.out⟩
  case round =>
    obtain ⟨j, rfl, hj, hZ⟩ := hrel
    obtain ⟨M, F, ls, hP, hbW, hpin⟩ := hZ.out
    have HZ0 := Lib.hid hbW
    clear hZ H1 H2
    by_cases hlt : j < L
    · obtain ⟨b, off, rfl, hc⟩ := HA.out (by rw [HL.out]; omega)
      obtain ⟨x, hx⟩ : ∃ x, l[j]'(by rw [HL.out]; exact hlt) = x := ⟨_, rfl⟩
      have hop := (hc j (by rw [HL.out]; exact hlt)).below hbW
      rw [hx] at hop
      obtain ⟨c0, c1, c2, c3, _, hkr, _⟩ := hop
      have hltI : (j : Int) < (L : Int) := by omega
      by_cases h300 : j < 300
      · have h300' : (j : Int) < 300 := by omega
        have P1 := hP.below ((Below.refl _ wr).alloc (Nat.le_refl _) (.cells #[.int .i64 x.kind, .int .i64 x.k, .int .i64 x.v, .bool x.d] 33))
        have P2 := P1.below (Below.refl _ _).drew
        have HPL := Lib.hid (plays_any W.heap.size _ M F C R n j ls P2 (by omega) g2 hpin x.kind x.k x.v x.d hkr)
        have hb9 : Below wr.heap.size wr (wr.alloc (.cells #[.int .i64 x.kind, .int .i64 x.k, .int .i64 x.v, .bool x.d] 33)) := (Below.refl _ wr).alloc (Nat.le_refl _) _
        have HZ0' := Lib.hid (bcat HZ0.out hb9).drew
        have hbx := heap_alloc_new wr (.cells #[.int .i64 x.kind, .int .i64 x.k, .int .i64 x.v, .bool x.d] 33)
        have HO := Lib.hid (show (wr.alloc (.cells #[.int .i64 x.kind, .int .i64 x.k, .int .i64 x.v, .bool x.d] 33)).drew.cell? ⟨wr.heap.size, 0, none⟩ = some (.int .i64 x.kind) ∧ (wr.alloc (.cells #[.int .i64 x.kind, .int .i64 x.k, .int .i64 x.v, .bool x.d] 33)).drew.cell? ⟨wr.heap.size, 1, none⟩ = some (.int .i64 x.k) ∧ (wr.alloc (.cells #[.int .i64 x.kind, .int .i64 x.k, .int .i64 x.v, .bool x.d] 33)).drew.cell? ⟨wr.heap.size, 2, none⟩ = some (.int .i64 x.v) ∧ (wr.alloc (.cells #[.int .i64 x.kind, .int .i64 x.k, .int .i64 x.v, .bool x.d] 33)).drew.cell? ⟨wr.heap.size, 3, none⟩ = some (.bool x.d) from four hbx)
        have HNM := Lib.hid (And.intro (show ¬ M wr.heap.size from fun e => by have := (hP.mb _ e).2; omega) (show ¬ F wr.heap.size from fun e => by have := (hP.fb _ e).2; omega))
        clear hc hP P1 P2 hbW hpin hkr hx hb9 hbx HZ0 HA
        have HZ0 := Lib.hid HZ0'.out
        clear HZ0'
        go_upto_region 13 with (fail)
        refine wp_region_held_drew (S := fun W => W.cell? ⟨wr.heap.size, 0, none⟩ = some (.int .i64 x.kind) ∧ W.cell? ⟨wr.heap.size, 1, none⟩ = some (.int .i64 x.k) ∧ W.cell? ⟨wr.heap.size, 2, none⟩ = some (.int .i64 x.v) ∧ W.cell? ⟨wr.heap.size, 3, none⟩ = some (.bool x.d)) (by kernel_rfl) HO.out (fun hHeld => ?_)
        refine wpAnyH_take (i := 0) (oi := _) (v := ?v1_0) rfl (by kernel_rfl) (by kernel_rfl) (by kernel_rfl) (fun _ _ _ h => h) (Or.inl ⟨by rfl, ?hy1_0⟩) (by assumption) ?rest1_0
        case hy1_0 =>
          intro W hSw
          clear hSw
          go_simp
          try (with_reducible rfl)
        try simp only [Act.put, List.getElem_toArray, List.getElem_cons_zero, List.getElem_cons_succ, List.setIfInBounds_toArray, List.set_cons_zero, List.set_cons_succ]
        refine wpAnyH_take (i := 1) (oi := _) (v := ?v2_1) rfl (by kernel_rfl) (by kernel_rfl) (by kernel_rfl) (fun _ _ _ h => h) (Or.inl ⟨by rfl, ?hy2_1⟩) (by assumption) ?rest2_1
        case hy2_1 =>
          intro W hSw
          clear hSw
          go_simp
          try (with_reducible rfl)
        try simp only [Act.put, List.getElem_toArray, List.getElem_cons_zero, List.getElem_cons_succ, List.setIfInBounds_toArray, List.set_cons_zero, List.set_cons_succ]
        refine wpAnyH_take (i := 2) (oi := _) (v := ?v3_2) rfl (by kernel_rfl) (by kernel_rfl) (by kernel_rfl) (fun _ _ _ h => h) (Or.inl ⟨by rfl, ?hy3_2⟩) (by assumption) ?rest3_2
        case hy3_2 =>
          intro W hSw
          obtain ⟨e0, e1, e2, e3⟩ := hSw
          go_simp
          try (with_reducible rfl)
        try simp only [Act.put, List.getElem_toArray, List.getElem_cons_zero, List.getElem_cons_succ, List.setIfInBounds_toArray, List.set_cons_zero, List.set_cons_succ]
        refine wpAnyH_ready (rs := [3]) (by kernel_rfl) (by simp) ?_
        refine AllReadyH.cons (o := _) rfl (fun K hK => ?_) AllReadyH.nil
        go_simp
        go_at_call 8
        with_reducible (refine (HPL.out).mono ?_)
        rintro e W1 ⟨rfl, M1, F1, l1, h1, b1, a1, n1⟩
        refine hK.out _ _ ⟨a1.cell HNM.out.1 HNM.out.2 HO.out.1, a1.cell HNM.out.1 HNM.out.2 HO.out.2.1, a1.cell HNM.out.1 HNM.out.2 HO.out.2.2.1, a1.cell HNM.out.1 HNM.out.2 HO.out.2.2.2⟩ (fun hHeld1 => ?_)
        clear hK K hHeld
        try simp only [Act.put, List.getElem_toArray, List.getElem_cons_zero, List.getElem_cons_succ, List.setIfInBounds_toArray, List.set_cons_zero, List.set_cons_succ]
        obtain ⟨rq, rc, hrc, r1, r0, _, _⟩ := h1.rc.row
        have HS := Lib.hid (fun (Y : World) (hb : Below W1.heap.size W1 Y) => (show (Y.cell? ⟨wr.heap.size, 0, none⟩ = some (.int .i64 x.kind) ∧ Y.cell? ⟨wr.heap.size, 1, none⟩ = some (.int .i64 x.k) ∧ Y.cell? ⟨wr.heap.size, 2, none⟩ = some (.int .i64 x.v) ∧ Y.cell? ⟨wr.heap.size, 3, none⟩ = some (.bool x.d)) ∧ Y.cell? ⟨R, 1, none⟩ = some (.slice rq l1.length rc) from ⟨⟨bcell hb hHeld1.1, bcell hb hHeld1.2.1, bcell hb hHeld1.2.2.1, bcell hb hHeld1.2.2.2⟩, bcell hb r1⟩))
        refine held_mono' (S' := fun Y => (Y.cell? ⟨wr.heap.size, 0, none⟩ = some (.int .i64 x.kind) ∧ Y.cell? ⟨wr.heap.size, 1, none⟩ = some (.int .i64 x.k) ∧ Y.cell? ⟨wr.heap.size, 2, none⟩ = some (.int .i64 x.v) ∧ Y.cell? ⟨wr.heap.size, 3, none⟩ = some (.bool x.d)) ∧ Y.cell? ⟨R, 1, none⟩ = some (.slice rq l1.length rc)) (fun _ h => h.1) _ _ _ _ ?_
        have hHeld := HS.out W1 (Below.refl _ _)
        clear hHeld1 r1 r0 hrc
        have B0 := Below.refl W1.heap.size W1
        have HW1 := Lib.hid (And.intro (HZ0.out.trans b1) (And.intro n1 h1.le))
        clear b1 a1 n1
        refine wpAnyH_take (i := 4) (oi := _) (v := ?v4_4) rfl (by kernel_rfl) (by kernel_rfl) (by kernel_rfl) (fun _ _ _ h => h) (Or.inl ⟨by rfl, ?hy4_4⟩) (by assumption) ?rest4_4
        case hy4_4 =>
          intro W hSw
          clear hSw
          go_simp
          try (with_reducible rfl)
        try simp only [Act.put, List.getElem_toArray, List.getElem_cons_zero, List.getElem_cons_succ, List.setIfInBounds_toArray, List.set_cons_zero, List.set_cons_succ]
        refine wpAnyH_take (i := 5) (oi := _) (v := .bool false) rfl (by kernel_rfl) (by kernel_rfl) (by kernel_rfl) (fun _ _ _ h => h) (Or.inl ⟨by rfl, ?hy5_5⟩) (by assumption) ?rest5_5
        case hy5_5 =>
          intro W hSw
          clear hSw
          go_simp
          try (with_reducible rfl)
        try simp only [Act.put, List.getElem_toArray, List.getElem_cons_zero, List.getElem_cons_succ, List.setIfInBounds_toArray, List.set_cons_zero, List.set_cons_succ]
        refine wpAnyH_take (i := 6) (oi := _) (v := ?v6_6) rfl (by kernel_rfl) (by kernel_rfl) (by kernel_rfl) (fun _ _ _ h => h) (Or.inl ⟨by rfl, ?hy6_6⟩) (by assumption) ?rest6_6
        case hy6_6 =>
          intro W hSw
          clear hSw
          go_simp
          try (with_reducible rfl)
        try simp only [Act.put, List.getElem_toArray, List.getElem_cons_zero, List.getElem_cons_succ, List.setIfInBounds_toArray, List.set_cons_zero, List.set_cons_succ]
        refine wpAnyH_take (i := 8) (oi := _) (v := ?v7_8) rfl (by kernel_rfl) (by kernel_rfl) (by kernel_rfl) (fun _ _ _ h => h) (Or.inl ⟨by rfl, ?hy7_8⟩) (by assumption) ?rest7_8
        case hy7_8 =>
          intro W hSw
          clear hSw
          go_simp
          try (with_reducible rfl)
        try simp only [Act.put, List.getElem_toArray, List.getElem_cons_zero, List.getElem_cons_succ, List.setIfInBounds_toArray, List.set_cons_zero, List.set_cons_succ]
        refine wpAnyH_ready (rs := [7]) (by kernel_rfl) (by simp) ?_
        refine AllReadyH.cons (o := _) rfl (fun K hK => ?_) AllReadyH.nil
        go_simp
        go_at_call 10
        with_reducible (refine (h1.keysP).mono ?_)
        rintro e Xp1 ⟨qpp, cpp, rfl, opp, bp1⟩
        have pp1 := h1.below bp1
        have Bp1 := bcat B0 bp1
        refine hK.out _ _ (HS.out _ Bp1) (fun hHeld => ?_)
        clear hK K
        try simp only [Act.put, List.getElem_toArray, List.getElem_cons_zero, List.getElem_cons_succ, List.setIfInBounds_toArray, List.set_cons_zero, List.set_cons_succ]
        refine wpAnyH_ready (rs := [9]) (by kernel_rfl) (by simp) ?_
        refine AllReadyH.cons (o := _) rfl (fun K hK => ?_) AllReadyH.nil
        go_simp
        go_at_call 11
        with_reducible (refine (pp1.keysR true).mono ?_)
        rintro e Xp2 ⟨qpr, cpr, rfl, opr, bp2⟩
        have pp2 := pp1.below bp2
        have Bp2 := bcat Bp1 bp2
        have opp2 := And.intro (opp.1.below bp2) opp.2
        refine hK.out _ _ (HS.out _ Bp2) (fun hHeld => ?_)
        clear hK K
        try simp only [Act.put, List.getElem_toArray, List.getElem_cons_zero, List.getElem_cons_succ, List.setIfInBounds_toArray, List.set_cons_zero, List.set_cons_succ]
        refine wpAnyH_ready (rs := [10]) (by kernel_rfl) (by simp) ?_
        refine AllReadyH.cons (o := _) rfl (fun K hK => ?_) AllReadyH.nil
        go_simp
        go_at_call 9
        with_reducible (refine (same_self (ks_len h1 true) opp2 opr).mono ?_)
        rintro e Xp3 ⟨rfl, bp3⟩
        have pp3 := pp2.below bp3
        have Bp3 := bcat Bp2 bp3
        refine hK.out _ _ (HS.out _ Bp3) (fun hHeld => ?_)
        clear hK K
        try simp only [Act.put, List.getElem_toArray, List.getElem_cons_zero, List.getElem_cons_succ, List.setIfInBounds_toArray, List.set_cons_zero, List.set_cons_succ]
        refine wpAnyH_take (i := 11) (oi := _) (v := ?v8_11) rfl (by kernel_rfl) (by kernel_rfl) (by kernel_rfl) (fun _ _ _ h => h) (Or.inl ⟨by rfl, ?hy8_11⟩) (by assumption) ?rest8_11
        case hy8_11 =>
          intro W hSw
          clear hSw
          go_simp
          try (with_reducible rfl)
        try simp only [Act.put, List.getElem_toArray, List.getElem_cons_zero, List.getElem_cons_succ, List.setIfInBounds_toArray, List.set_cons_zero, List.set_cons_succ]
        refine wpAnyH_take (i := 12) (oi := _) (v := .bool false) rfl (by kernel_rfl) (by kernel_rfl) (by kernel_rfl) (fun _ _ _ h => h) (Or.inl ⟨by rfl, ?hy9_12⟩) (by assumption) ?rest9_12
        case hy9_12 =>
          intro W hSw
          clear hSw
          go_simp
          try (with_reducible rfl)
        try simp only [Act.put, List.getElem_toArray, List.getElem_cons_zero, List.getElem_cons_succ, List.setIfInBounds_toArray, List.set_cons_zero, List.set_cons_succ]
        refine wpAnyH_take (i := 13) (oi := _) (v := ?v10_13) rfl (by kernel_rfl) (by kernel_rfl) (by kernel_rfl) (fun _ _ _ h => h) (Or.inl ⟨by rfl, ?hy10_13⟩) (by assumption) ?rest10_13
        case hy10_13 =>
          intro W hSw
          clear hSw
          go_simp
          try (with_reducible rfl)
        try simp only [Act.put, List.getElem_toArray, List.getElem_cons_zero, List.getElem_cons_succ, List.setIfInBounds_toArray, List.set_cons_zero, List.set_cons_succ]
        refine wpAnyH_take (i := 14) (oi := _) (v := ?v11_14) rfl (by kernel_rfl) (by kernel_rfl) (by kernel_rfl) (fun _ _ _ h => h) (Or.inl ⟨by rfl, ?hy11_14⟩) (by assumption) ?rest11_14
        case hy11_14 =>
          intro W hSw
          clear hSw
          go_simp
          try (with_reducible rfl)
        try simp only [Act.put, List.getElem_toArray, List.getElem_cons_zero, List.getElem_cons_succ, List.setIfInBounds_toArray, List.set_cons_zero, List.set_cons_succ]
        refine wpAnyH_take (i := 16) (oi := _) (v := ?v12_16) rfl (by kernel_rfl) (by kernel_rfl) (by kernel_rfl) (fun _ _ _ h => h) (Or.inl ⟨by rfl, ?hy12_16⟩) (by assumption) ?rest12_16
        case hy12_16 =>
          intro W hSw
          clear hSw
          go_simp
          try (with_reducible rfl)
        try simp only [Act.put, List.getElem_toArray, List.getElem_cons_zero, List.getElem_cons_succ, List.setIfInBounds_toArray, List.set_cons_zero, List.set_cons_succ]
        refine wpAnyH_ready (rs := [15]) (by kernel_rfl) (by simp) ?_
        refine AllReadyH.cons (o := _) rfl (fun K hK => ?_) AllReadyH.nil
        go_simp
        go_at_call 12
        with_reducible (refine (pp3.dirtyP).mono ?_)
        rintro e Xpp1 ⟨qppp, cppp, rfl, oppp, bpp1⟩
        have ppp1 := pp3.below bpp1
        have Bpp1 := bcat Bp3 bpp1
        refine hK.out _ _ (HS.out _ Bpp1) (fun hHeld => ?_)
        clear hK K
        try simp only [Act.put, List.getElem_toArray, List.getElem_cons_zero, List.getElem_cons_succ, List.setIfInBounds_toArray, List.set_cons_zero, List.set_cons_succ]
        refine wpAnyH_ready (rs := [17]) (by kernel_rfl) (by simp) ?_
        refine AllReadyH.cons (o := _) rfl (fun K hK => ?_) AllReadyH.nil
        go_simp
        go_at_call 11
        with_reducible (refine (ppp1.keysR false).mono ?_)
        rintro e Xpp2 ⟨qppr, cppr, rfl, oppr, bpp2⟩
        have ppp2 := ppp1.below bpp2
        have Bpp2 := bcat Bpp1 bpp2
        have oppp2 := And.intro (oppp.1.below bpp2) oppp.2
        refine hK.out _ _ (HS.out _ Bpp2) (fun hHeld => ?_)
        clear hK K
        try simp only [Act.put, List.getElem_toArray, List.getElem_cons_zero, List.getElem_cons_succ, List.setIfInBounds_toArray, List.set_cons_zero, List.set_cons_succ]
        refine wpAnyH_ready (rs := [18]) (by kernel_rfl) (by simp) ?_
        refine AllReadyH.cons (o := _) rfl (fun K hK => ?_) AllReadyH.nil
        go_simp
        go_at_call 9
        with_reducible (refine (same_self (ks_len pp3 false) oppp2 oppr).mono ?_)
        rintro e Xpp3 ⟨rfl, bpp3⟩
        have ppp3 := ppp2.below bpp3
        have Bpp3 := bcat Bpp2 bpp3
        refine hK.out _ _ (HS.out _ Bpp3) (fun hHeld => ?_)
        clear hK K
        try simp only [Act.put, List.getElem_toArray, List.getElem_cons_zero, List.getElem_cons_succ, List.setIfInBounds_toArray, List.set_cons_zero, List.set_cons_succ]
        refine wpAnyH_take (i := 19) (oi := _) (v := ?v13_19) rfl (by kernel_rfl) (by kernel_rfl) (by kernel_rfl) (fun _ _ _ h => h) (Or.inl ⟨by rfl, ?hy13_19⟩) (by assumption) ?rest13_19
        case hy13_19 =>
          intro W hSw
          clear hSw
          go_simp
          try (with_reducible rfl)
        try simp only [Act.put, List.getElem_toArray, List.getElem_cons_zero, List.getElem_cons_succ, List.setIfInBounds_toArray, List.set_cons_zero, List.set_cons_succ]
        refine wpAnyH_take (i := 20) (oi := _) (v := .bool false) rfl (by kernel_rfl) (by kernel_rfl) (by kernel_rfl) (fun _ _ _ h => h) (Or.inl ⟨by rfl, ?hy14_20⟩) (by assumption) ?rest14_20
        case hy14_20 =>
          intro W hSw
          clear hSw
          go_simp
          try (with_reducible rfl)
        try simp only [Act.put, List.getElem_toArray, List.getElem_cons_zero, List.getElem_cons_succ, List.setIfInBounds_toArray, List.set_cons_zero, List.set_cons_succ]
        refine wpAnyH_take (i := 21) (oi := _) (v := ?v15_21) rfl (by kernel_rfl) (by kernel_rfl) (by kernel_rfl) (fun _ _ _ h => h) (Or.inl ⟨by rfl, ?hy15_21⟩) (by assumption) ?rest15_21
        case hy15_21 =>
          intro W hSw
          clear hSw
          go_simp
          try (with_reducible rfl)
        try simp only [Act.put, List.getElem_toArray, List.getElem_cons_zero, List.getElem_cons_succ, List.setIfInBounds_toArray, List.set_cons_zero, List.set_cons_succ]
        refine wpAnyH_take (i := 22) (oi := _) (v := ?v16_22) rfl (by kernel_rfl) (by kernel_rfl) (by kernel_rfl) (fun _ _ _ h => h) (Or.inl ⟨by rfl, ?hy16_22⟩) (by assumption) ?rest16_22
        case hy16_22 =>
          intro W hSw
          clear hSw
          go_simp
          try (with_reducible rfl)
        try simp only [Act.put, List.getElem_toArray, List.getElem_cons_zero, List.getElem_cons_succ, List.setIfInBounds_toArray, List.set_cons_zero, List.set_cons_succ]
        refine wpAnyH_take (i := 24) (oi := _) (v := ?v17_24) rfl (by kernel_rfl) (by kernel_rfl) (by kernel_rfl) (fun _ _ _ h => h) (Or.inl ⟨by rfl, ?hy17_24⟩) (by assumption) ?rest17_24
        case hy17_24 =>
          intro W hSw
          clear hSw
          go_simp
          try (with_reducible rfl)
        try simp only [Act.put, List.getElem_toArray, List.getElem_cons_zero, List.getElem_cons_succ, List.setIfInBounds_toArray, List.set_cons_zero, List.set_cons_succ]
        refine wpAnyH_take (i := 25) (oi := _) (v := ?v18_25) rfl (by kernel_rfl) (by kernel_rfl) (by kernel_rfl) (fun _ _ _ h => h) (Or.inl ⟨by rfl, ?hy18_25⟩) (by assumption) ?rest18_25
        case hy18_25 =>
          intro W hSw
          clear hSw
          go_simp
          try (with_reducible rfl)
        try simp only [Act.put, List.getElem_toArray, List.getElem_cons_zero, List.getElem_cons_succ, List.setIfInBounds_toArray, List.set_cons_zero, List.set_cons_succ]
        refine wpAnyH_take (i := 26) (oi := _) (v := ?v19_26) rfl (by kernel_rfl) (by kernel_rfl) (by kernel_rfl) (fun _ _ _ h => h) (Or.inl ⟨by rfl, ?hy19_26⟩) (by assumption) ?rest19_26
        case hy19_26 =>
          intro W hSw
          clear hSw
          go_simp
          try (with_reducible rfl)
        try simp only [Act.put, List.getElem_toArray, List.getElem_cons_zero, List.getElem_cons_succ, List.setIfInBounds_toArray, List.set_cons_zero, List.set_cons_succ]
        refine wpAnyH_take (i := 27) (oi := _) (v := ?v20_27) rfl (by kernel_rfl) (by kernel_rfl) (by kernel_rfl) (fun _ _ _ h => h) (Or.inl ⟨by rfl, ?hy20_27⟩) (by assumption) ?rest20_27
        case hy20_27 =>
          intro W hSw
          have e1 := hSw.2
          go_simp
          try (with_reducible rfl)
        try simp only [Act.put, List.getElem_toArray, List.getElem_cons_zero, List.getElem_cons_succ, List.setIfInBounds_toArray, List.set_cons_zero, List.set_cons_succ]
        refine wpAnyH_take (i := 28) (oi := _) (v := ?v21_28) rfl (by kernel_rfl) (by kernel_rfl) (by kernel_rfl) (fun _ _ _ h => h) (Or.inl ⟨by rfl, ?hy21_28⟩) (by assumption) ?rest21_28
        case hy21_28 =>
          intro W hSw
          clear hSw
          go_simp
          try (with_reducible rfl)
        try simp only [Act.put, List.getElem_toArray, List.getElem_cons_zero, List.getElem_cons_succ, List.setIfInBounds_toArray, List.set_cons_zero, List.set_cons_succ]
        refine wpAnyH_ready (rs := [23]) (by kernel_rfl) (by simp) ?_
        refine AllReadyH.cons (o := _) rfl (fun K hK => ?_) AllReadyH.nil
        go_simp
        go_at_call 13
        with_reducible (refine (ppp3.lenP).mono ?_)
        rintro e Y ⟨rfl, rfl⟩
        refine hK.out _ _ (HS.out _ Bpp3) (fun hHeld => ?_)
        clear hK K
        try simp only [Act.put, List.getElem_toArray, List.getElem_cons_zero, List.getElem_cons_succ, List.setIfInBounds_toArray, List.set_cons_zero, List.set_cons_succ]
        refine wpAnyH_take (i := 29) (oi := _) (v := ?v22_29) rfl (by kernel_rfl) (by kernel_rfl) (by kernel_rfl) (fun _ _ _ h => h) (Or.inl ⟨by rfl, ?hy22_29⟩) (by assumption) ?rest22_29
        case hy22_29 =>
          intro W hSw
          clear hSw
          go_simp
          try (with_reducible rfl)
        try simp only [Act.put, List.getElem_toArray, List.getElem_cons_zero, List.getElem_cons_succ, List.setIfInBounds_toArray, List.set_cons_zero, List.set_cons_succ]
        refine wpAnyH_take (i := 30) (oi := _) (v := ?v23_30) rfl (by kernel_rfl) (by kernel_rfl) (by kernel_rfl) (fun _ _ _ h => h) (Or.inl ⟨by rfl, ?hy23_30⟩) (by assumption) ?rest23_30
        case hy23_30 =>
          intro W hSw
          clear hSw
          go_simp
          try (with_reducible rfl)
        try simp only [Act.put, List.getElem_toArray, List.getElem_cons_zero, List.getElem_cons_succ, List.setIfInBounds_toArray, List.set_cons_zero, List.set_cons_succ]
        refine wpAnyH_done (by kernel_rfl) ?_ _
        clear hHeld
        have HZ9 := Lib.hid (And.intro ppp3 Bpp3)
        clear HS
        go_wp2_with (fail)
        go_round
        case rel => exact ⟨j + 1, by go_num, by omega, ⟨M1, F1, l1, HZ9.out.1, (HW1.out.1).trans (HZ9.out.2.mono HW1.out.2.2), HW1.out.2.1⟩⟩
        case measure => simp [intOf]; omega
      · have h300' : (300 : Int) ≤ (j : Int) := by omega
        have HZ9 := Lib.hid hbW
        clear hc hP hbW hpin hkr hx HZ0 HA
        go_wp2_with (fail)
        go_ret
        exact ⟨rfl, HZ9.out.alloc HZ9.out.size _⟩
    · obtain rfl : j = L := by omega
      clear hP hpin hbW
      go_wp2_with (fail)
      go_ret
      exact ⟨rfl, HZ0.out⟩
end Go.Proofs.Ytaigbplidkakhaa
