/- Proved here: the statement SheetHeads, walked: it answers true of every number, every stamp and all bytes, in every world. -/
import Derived.Test.YtbbfbgccikeciaaHeadAny
import Derived.Test.YtbbfbgccikeciaaRefTHead
import Derived.Test.YtbbfbgccikeciaaSheetAwake
namespace Go.Proofs.Ytbbfbgccikeciaa
open Go.RowKit

theorem rlayhead_any (n : Int) (st : Nat) (w : World) (hst : st < 18446744073709551616) :
    Calls Try.prog 17 #[.agg #[.int .i64 n, .int .u64 (st : Int)]] w (LayPost (headI n st) w) := by
  unfold headI
  by_cases h : outH n
  · rw [if_pos h]
    exact (rlayhead_arg n st h w).mono fun e w' ⟨h1, h2⟩ => ⟨_, h1, .inl ⟨rfl, rfl, h2⟩⟩
  · rw [if_neg h]
    obtain ⟨k, rfl⟩ : ∃ k : Nat, n = (k : Int) := ⟨n.toNat, by unfold outH at h; omega⟩
    rw [Int.toNat_natCast]
    exact (rlayhead_ok k st (by unfold outH at h; omega) (by unfold outH at h; omega) hst w).mono fun e w' ⟨r, h1, h2⟩ => ⟨r, h1, .inr h2⟩
theorem rtakehead_any (p : Option Addr) (s : ByteArray) (m c : Nat) (w : World) (hm : s.size = m) (hc : m ≤ c) (hp : HoldsB w p s) :
    Calls Try.prog 19 #[.slice p m c] w (HeadPost (headR (bl s)) w) := by
  by_cases h5 : m = 64
  · subst h5
    obtain ⟨b, off, rfl, _⟩ := hp (by omega)
    exact rtakehead_64 b off s c w hm hc hp
  · rw [headR_len (bl s) (by rw [bl_length, hm]; exact h5)]
    exact rtakehead_len p m c h5 w
/-- A loop's state. -/
def HdsRel (W : World) (x : Value) (wr : World) : Prop := ∃ k : Nat, x = .int .i64 (k : Int) ∧ k ≤ 2 ∧ Hid (Below W.heap.size W wr)
set_option maxRecDepth 100000 in
set_option maxHeartbeats 8000000 in
theorem heads_walk (n : Int) (st : Nat) (q : Option Addr) (t : ByteArray) (d : Nat) (w : World) (hst : st < 18446744073709551616) (ht : t.size ≤ d) (hq : HoldsB w q t) :
    Calls Try.prog 5 #[.int .i64 n, .int .u64 (st : Int), .slice q t.size d] w fun e w' => e = .returned (.bool true) ∧ Below w.heap.size w w' := by
  have AW := Lib.hid (awake15_any w)
  have HT := Lib.hid (And.intro hst (And.intro ht hq))
  obtain ⟨k, hk⟩ : ∃ k, t.size = k := ⟨_, rfl⟩
  have HK := Lib.hid hk
  rw [hk]
  obtain ⟨X, hX⟩ : ∃ X, headI n st = X := ⟨_, rfl⟩
  have HX := Lib.hid hX
  clear hst ht hq hk hX
  go_enter Try.func5, Try.ntmps5
  go_wp2_with (fail)
  refine AW.out.mono ?_
  rintro e W0 ⟨rfl, hb⟩
  have LY := layhead_any n st W0 HT.out.1
  rw [HX.out] at LY
  have L1 := Lib.hid LY
  have B0 := Lib.hid hb
  clear hb LY AW
  go_wp2_with (fail)
  refine L1.out.mono ?_
  rintro e W1 ⟨r, rfl, hr⟩
  have RL := rlayhead_any n st W1 HT.out.1
  rw [HX.out] at RL
  have R1 := Lib.hid RL
  obtain ⟨q1, d1, rfl, hq1, _⟩ := hr.holds
  have H1 := Lib.hid (And.intro hq1 (below_cat B0.out hr.below))
  clear hr hq1 RL L1
  go_wp2_with (fail)
  refine R1.out.mono ?_
  rintro e W2 ⟨r, rfl, hr⟩
  obtain ⟨q2, d2, rfl, hq2, hq2n, hd2⟩ := hr.room
  have SM := same_told (p := q1) (q := q2) (c := d1) (d := d2) (H1.out.1.below hr.below) hq2
  have H2 := Lib.hid (And.intro hq2 (And.intro hd2 (below_cat H1.out.2 hr.below)))
  obtain ⟨L, hL⟩ : ∃ L, X.1.length = L := ⟨_, rfl⟩
  have HL := Lib.hid hL
  rw [hL] at SM ⊢
  have S2 := Lib.hid SM
  clear hr hq2 hq2n hd2 hL SM R1
  go_wp2_with (fail)
  refine S2.out.mono ?_
  rintro e w' ⟨rfl, rfl⟩
  clear S2
  obtain ⟨W3, hW3⟩ : ∃ W3, W2.alloc (.cells #[.slice q k d, .slice q2 L d2] 32) = W3 := ⟨_, rfl⟩
  have n3 : W3.heap[W2.heap.size]? = some (.cells #[.slice q k d, .slice q2 L d2] 32 (0, 0)) := by rw [← hW3]; exact heap_alloc_new _ _
  have b23 : Below W2.heap.size W2 W3 := by rw [← hW3]; exact (Below.refl _ _).alloc (Nat.le_refl _) _
  have c0 : W3.cell? ⟨W2.heap.size, 0, none⟩ = some (.slice q k d) := by rw [cell_of_row _ _ _ _ _ _ n3]; rfl
  have c1 : W3.cell? ⟨W2.heap.size, 1, none⟩ = some (.slice q2 L d2) := by rw [cell_of_row _ _ _ _ _ _ n3]; rfl
  have H3 := Lib.hid (And.intro (below_cat H2.out.2.2 b23) (And.intro (HT.out.2.2.below (below_cat H2.out.2.2 b23)) (And.intro (H2.out.1.below b23) (And.intro c0 c1))))
  clear n3 b23 c0 c1
  go_wp2_with (fail)
  clear hW3
  go_loopw [46] (fun x wr => HdsRel W3 x wr) (fun x _ => 2 - (intOf x).toNat)
  case atStart => exact ⟨0, rfl, Nat.zero_le _, Lib.hid (Below.refl _ _)⟩
  case round =>
    obtain ⟨j, rfl, hj, HR⟩ := hrel
    have hcase : j = 0 ∨ j = 1 ∨ j = 2 := by omega
    have PK : j < 2 → ∃ q' m' d' t', wr.cell? ⟨W2.heap.size, j, none⟩ = some (.slice q' m' d') ∧ Hid (t'.size = m' ∧ m' ≤ d' ∧ HoldsB wr q' t') := fun hlt => by
      rcases (show j = 0 ∨ j = 1 by omega) with rfl | rfl
      · exact ⟨q, k, d, t, hb_cell HR.out H3.out.2.2.2.1, Lib.hid ⟨HK.out, by have := HT.out.2.1; rw [HK.out] at this; exact this, H3.out.2.1.below HR.out⟩⟩
      · exact ⟨q2, L, d2, ofL X.1, hb_cell HR.out H3.out.2.2.2.2, Lib.hid ⟨by rw [ofL_size, HL.out], by have := H2.out.2.1; rw [HL.out] at this; exact this, H3.out.2.2.1.below HR.out⟩⟩
    clear hcase
    by_cases hlt : j < 2
    · obtain ⟨q', m', d', t', hcell, HP⟩ := PK hlt
      have TH := Lib.hid (fun W (hW : Below wr.heap.size wr W) => takehead_any q' t' m' d' W HP.out.1 HP.out.2.1 (HP.out.2.2.below hW))
      have RH := Lib.hid (fun W (hW : Below wr.heap.size wr W) => rtakehead_any q' t' m' d' W HP.out.1 HP.out.2.1 (HP.out.2.2.below hW))
      obtain ⟨Y, hY⟩ : ∃ Y, headR (bl t') = Y := ⟨_, rfl⟩
      rw [hY] at TH RH
      clear hY PK
      go_wp2_with (fail)
      refine (TH.out wr (Below.refl _ _)).mono ?_
      rintro e W4 ⟨rfl, hb⟩
      have B4 := Lib.hid hb
      clear hb TH hcell
      obtain ⟨W5, hW5⟩ : ∃ W5, W4.alloc (.cells #[.int .i64 (Y.1 : Int), .int .u64 (Y.2.1 : Int)] 43) = W5 := ⟨_, rfl⟩
      have n5 : W5.heap[W4.heap.size]? = some (.cells #[.int .i64 (Y.1 : Int), .int .u64 (Y.2.1 : Int)] 43 (0, 0)) := by rw [← hW5]; exact heap_alloc_new _ _
      have b5 : Below wr.heap.size wr W5 := by rw [← hW5]; exact B4.out.alloc B4.out.size _
      have H5 := Lib.hid (And.intro n5 b5)
      clear n5 b5
      go_wp2_with (fail)
      clear hW5
      refine (RH.out W5 H5.out.2).mono ?_
      rintro e W6 ⟨rfl, hb⟩
      obtain ⟨W7, hW7⟩ : ∃ W7, W6.alloc (.cells #[.int .i64 (Y.1 : Int), .int .u64 (Y.2.1 : Int)] 45) = W7 := ⟨_, rfl⟩
      have n7 : W7.heap[W6.heap.size]? = some (.cells #[.int .i64 (Y.1 : Int), .int .u64 (Y.2.1 : Int)] 45 (0, 0)) := by rw [← hW7]; exact heap_alloc_new _ _
      have b67 : Below W6.heap.size W6 W7 := by rw [← hW7]; exact (Below.refl _ _).alloc (Nat.le_refl _) _
      have m7 := (b67.block _ (by have := blk_lt2 ((hb.block _ (blk_lt2 H5.out.1)).trans H5.out.1); exact this)).trans ((hb.block _ (blk_lt2 H5.out.1)).trans H5.out.1)
      have y0 : W7.cell? ⟨W4.heap.size, 0, none⟩ = some (.int .i64 (Y.1 : Int)) := by rw [cell_of_row _ _ _ _ _ _ m7]; rfl
      have y1 : W7.cell? ⟨W4.heap.size, 1, none⟩ = some (.int .u64 (Y.2.1 : Int)) := by rw [cell_of_row _ _ _ _ _ _ m7]; rfl
      have z0 : W7.cell? ⟨W6.heap.size, 0, none⟩ = some (.int .i64 (Y.1 : Int)) := by rw [cell_of_row _ _ _ _ _ _ n7]; rfl
      have z1 : W7.cell? ⟨W6.heap.size, 1, none⟩ = some (.int .u64 (Y.2.1 : Int)) := by rw [cell_of_row _ _ _ _ _ _ n7]; rfl
      have B7 := Lib.hid (below_cat HR.out (below_cat H5.out.2 (below_cat hb b67)))
      clear hb n7 b67 m7 RH
      go_wp2_with (fail)
      go_roundw
      case rel => exact ⟨j + 1, by go_num, by omega, Lib.hid B7.out⟩
      case measure => simp [intOf]; omega
    · obtain rfl : j = 2 := by omega
      clear PK
      go_wp2_with (fail)
      go_ret
      exact ⟨rfl, below_cat H3.out.1 HR.out⟩
end Go.Proofs.Ytbbfbgccikeciaa
