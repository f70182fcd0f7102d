/- Proved here: the statement DrumFuses, walked: it answers true of every input, in every world. -/
import Derived.Test.YtpcnbnfbiifakaaDrumActs
import Derived.Test.YtpcnbnfbiifakaaDrumOps
import Derived.StillTailTactics
namespace Go.Proofs.Ytpcnbnfbiifakaa
open Go.RowKit

theorem rem_form (x : Int) (m : Nat) (hm : m ≤ 1000) : ∃ a : Nat, wrap64 ((IntKind.u64.wrap x).tmod ((m : Int) + 1)) = (a : Int) ∧ a ≤ m := by
  rw [IntKind.wrap_u64]
  have h0 : 0 ≤ x % 18446744073709551616 := Int.emod_nonneg _ (by decide)
  rw [Int.tmod_eq_emod_of_nonneg h0]
  have h1 := Int.emod_nonneg (x % 18446744073709551616) (show (m : Int) + 1 ≠ 0 by omega)
  have h2 := Int.emod_lt_of_pos (x % 18446744073709551616) (show (0 : Int) < (m : Int) + 1 by omega)
  refine ⟨(x % 18446744073709551616 % ((m : Int) + 1)).toNat, ?_, by omega⟩
  unfold wrap64
  omega
/-- So many steps were done by a fuse of k. -/
structure FInv (k : Nat) (M : DM) (dn j : Nat) : Prop where
  steps : M.steps = dn
  le : dn ≤ k
  fuse : M.fuse = some (k - dn)
  down : M.down = true → dn = k
  loose : M.loose.length ≤ j
theorem FInv.yes {k dn j : Nat} {M : DM} (h : FInv k M dn j) (hlt : dn < k) : M.off = false := by
  unfold DM.off
  rw [h.fuse]
  have h1 : M.down = false := by
    cases hd : M.down
    · rfl
    · have := h.down hd; omega
  rw [h1, Bool.false_or, beq_eq_false_iff_ne]
  intro e
  injection e with e
  omega
theorem FInv.no {k dn j : Nat} {M : DM} (h : FInv k M dn j) (hlt : ¬ dn < k) : M.off = true := by
  unfold DM.off
  rw [h.fuse, show k - dn = 0 by have := h.le; omega]
  simp
theorem FInv.tame {k dn j : Nat} {M : DM} (h : FInv k M dn j) (hk : k ≤ 40) (hj : j ≤ 200) : Tame M := ⟨by rw [h.steps]; have := h.le; omega, by rw [h.fuse, Option.getD_some]; omega, by have := h.loose; omega⟩
theorem FInv.mono {k dn j i : Nat} {M : DM} (h : FInv k M dn j) (hj : j ≤ i) : FInv k M dn i := ⟨h.steps, h.le, h.fuse, h.down, Nat.le_trans h.loose hj⟩
theorem FInv.step {k dn j : Nat} {M : DM} (h : FInv k M dn j) (hlt : dn < k) : FInv k M.step (dn + 1) j := by
  have ho := h.yes hlt
  refine ⟨by rw [M.step_steps ho, h.steps], hlt, by rw [M.step_fuse ho, h.fuse, Option.map_some]; congr 1, fun hd => ?_, by rw [M.step_loose]; exact h.loose⟩
  rw [M.step_down ho] at hd
  have := h.down hd; omega
theorem FInv.stop {k dn j : Nat} {M : DM} (h : FInv k M dn j) (hlt : ¬ dn < k) : FInv k M.step dn j := by
  rw [M.step_no (h.no hlt)]
  exact ⟨h.steps, h.le, h.fuse, fun _ => by have := h.le; omega, h.loose⟩
theorem FInv.write {k dn j n : Nat} {M : DM} {s : ByteArray} (h : FInv k M dn j) (hlt : dn < k) : FInv k (M.write n s) (dn + 1) (j + 1) := by
  have h1 := h.step hlt
  rw [M.write_yes (h.yes hlt)]
  exact ⟨h1.steps, h1.le, h1.fuse, h1.down, by simp; exact h.loose⟩
theorem FInv.flush {k dn j : Nat} {M : DM} (h : FInv k M dn j) (hlt : dn < k) : FInv k M.flush (dn + 1) j := by
  have h1 := h.step hlt
  rw [M.flush_yes (h.yes hlt)]
  exact ⟨h1.steps, h1.le, h1.fuse, h1.down, Nat.zero_le _⟩
def FusRel (w : World) (G K L : Nat) (v d : Value) (wr : World) : Prop :=
  ∃ j dn : Nat, v = .int .i64 (j : Int) ∧ d = .int .i64 (dn : Int) ∧ j ≤ L ∧ j ≤ 200 ∧ dn ≤ 40 ∧ Hid (∃ F M, DW w wr F G 8 M ∧ FInv K M dn j)
set_option maxRecDepth 100000 in
set_option maxHeartbeats 64000000 in
theorem drumFuses_walk (p : Option Addr) (c : Nat) (l : List OpM) (n : Int) (w : World) (hl : l.length ≤ 140737488351232) (hp : HoldsOps w p l) :
    Calls Try.prog 5 #[.slice p l.length c, .int .i64 n] w fun e w' => e = .returned (.bool true) ∧ Below w.heap.size w w' := by
  have AW := Lib.hid (awake13_any w)
  obtain ⟨K, hK, hK40⟩ := rem_form n 39 (by decide)
  have HK := Lib.hid (And.intro (show wrap64 ((IntKind.u64.wrap n).tmod 40) = (K : Int) from hK) hK40)
  have HP := Lib.hid hp
  obtain ⟨L, hL⟩ : ∃ L, l.length = L := ⟨_, rfl⟩
  have HL := Lib.hid hL
  rw [hL] at hl ⊢
  have hl' : (L : Int) ≤ 140737488351232 := by omega
  clear hp hK hL
  go_enter Try.func5, Try.ntmps5
  go_wp2_with (fail)
  refine (AW.out).mono ?_
  rintro e w1 ⟨rfl, hb1⟩
  have B1 := Lib.hid hb1
  clear hb1 AW
  go_wp2_with (fail)
  refine (new_ok 8 (by decide) (by decide) _).mono ?_
  rintro e w2 ⟨G, F, rfl, hd, hb, hF⟩
  have D2 := Lib.hid (DW.mk hd (cat_b B1.out hb) (fun k hk => Nat.le_trans B1.out.size (hF k hk)))
  clear hd hb hF B1
  go_wp2_with (fail)
  rw [HK.out.1]
  refine (dfuse D2.out K).mono ?_
  rintro e w3 ⟨rfl, hd, _⟩
  have D3 := Lib.hid hd
  clear hd D2
  go_wp2_with (fail)
  refine (fuse_arg _ G (-1) (by decide)).mono ?_
  rintro e w4 ⟨rfl, rfl⟩
  have hK40 : (K : Int) ≤ 40 := by have := HK.out.2; omega
  go_wp2_with (fail)
  go_loopw [42, 8] (fun v d wr => FusRel w G K L v d wr) (fun v _ _ => L - (intOf v).toNat)
  case atStart => exact ⟨0, 0, rfl, rfl, Nat.zero_le _, by decide, by decide, Lib.hid ⟨F, (newM 8).fused K, D3.out, ⟨rfl, Nat.zero_le _, rfl, (fun h => by cases h), Nat.le_refl _⟩⟩⟩
  case round =>
    obtain ⟨j, dn, rfl, rfl, hj, hj2, hdn, HR⟩ := hrel
    obtain ⟨F', M, hD, hI⟩ := HR.out
    have HT := Lib.hid (hI.tame (by have := HK.out.2; omega) hj2)
    have HI := Lib.hid hI
    have HD := Lib.hid hD
    clear hD hI HR
    by_cases hlt : j < L ∧ j < 200
    · obtain ⟨hlt, h200⟩ := hlt
      obtain ⟨b, off, rfl, hc⟩ := (HP.out.below HD.out.below) (by rw [HL.out]; omega)
      obtain ⟨pa, pc, ka, kc, c0, c1, c2, c3, hB, hpn, hps, _, _, _, hkb, hnb⟩ := hc j (by rw [HL.out]; exact hlt)
      obtain ⟨x, hx⟩ : ∃ x, l[j]'(by rw [HL.out]; exact hlt) = x := ⟨_, rfl⟩
      rw [hx] at c0 c1 c2 c3 hB hps hkb hnb
      obtain ⟨kind, hkd⟩ : ∃ kind, x.kind = kind := ⟨_, rfl⟩
      obtain ⟨y, hy⟩ : ∃ y, x.n = y := ⟨_, rfl⟩
      obtain ⟨s, hs⟩ : ∃ s, x.p = s := ⟨_, rfl⟩
      obtain ⟨kl, hkl⟩ : ∃ kl, x.keep.length = kl := ⟨_, rfl⟩
      rw [hkd] at c0 hkb
      rw [hy] at c1 hnb
      rw [hs] at c2 hB hps
      rw [hkl] at c3
      have HB := Lib.hid (And.intro hB (And.intro hpn hps))
      have t200 : ((j : Int) ≥ 200) = False := by simp; omega
      have h200' : (j : Int) < 200 := by omega
      have hlt' : (j : Int) < (L : Int) := by omega
      clear hc hx hkd hy hs hkl hB hpn hps t200
      have hdnK : dn < K ∨ ¬ dn < K := by omega
      by_cases hk : kind = 0
      · subst hk
        by_cases hn : 0 ≤ y ∧ y < 8
        · obtain ⟨n1, rfl⟩ : ∃ n1 : Nat, y = (n1 : Int) := ⟨y.toNat, by omega⟩
          have hn8 : n1 < 8 := by omega
          rcases hdnK with hd | hd
          · have HJ := Lib.hid hd
            have hd1 : (dn : Int) < (K : Int) := by omega
            go_wp2_with (fail)
            refine (dread_ok (HD.out.alloc _) HT.out (HI.out.yes HJ.out) n1 hn8).mono ?_
            rintro e w' ⟨g, rfl, hN, _, _, _, _⟩
            have HN := Lib.hid hN
            clear hN
            go_wp2_with (fail)
            go_round
            case rel => exact ⟨j + 1, dn + 1, by go_num, by go_num, by omega, by omega, by have := HK.out.2; omega, Lib.hid ⟨_, _, HN.out, (HI.out.step HJ.out).mono (by omega)⟩⟩
            case measure => simp [intOf]; omega
          · have HJ := Lib.hid hd
            have hd1 : ¬ (dn : Int) < (K : Int) := by omega
            have DX : Hid (∀ W, DW w W F' G 8 M.step → Calls Try.prog 27 #[.pointer (some ⟨G, 0, none⟩)] W fun e W' => e = .returned (.bool true) ∧ W = W') := Lib.hid (fun W h => by have := down_any W F' G 8 M.step h.drum; rw [M.step_no (HI.out.no HJ.out)] at this; exact this)
            go_wp2_with (fail)
            refine (dread_off (HD.out.alloc _) HT.out (HI.out.no HJ.out) n1 hn8).mono ?_
            rintro e w' ⟨rfl, hN, _⟩
            have HN := Lib.hid hN
            clear hN
            go_wp2_with (fail)
            refine (DX.out _ HN.out).mono ?_
            rintro e w' ⟨rfl, rfl⟩
            go_wp2_with (fail)
            go_round
            case rel => exact ⟨j + 1, dn, by go_num, by go_num, by omega, by omega, by have := HK.out.2; omega, Lib.hid ⟨_, _, HN.out, (HI.out.stop HJ.out).mono (by omega)⟩⟩
            case measure => simp [intOf]; omega
        · go_wp2_with (fail)
          refine (read_arg _ F' G 8 M (HD.out.alloc _).drum y (by omega)).mono ?_
          rintro e w' ⟨rfl, rfl⟩
          go_wp2_with (fail)
          go_round
          case rel => exact ⟨j + 1, dn, by go_num, by go_num, by omega, by omega, by have := HK.out.2; omega, Lib.hid ⟨_, _, HD.out.alloc _, HI.out.mono (by omega)⟩⟩
          case measure => simp [intOf]; omega
      · by_cases hk1 : kind = 1
        · subst hk1
          by_cases hn : 0 ≤ y ∧ y < 8
          · obtain ⟨n1, rfl⟩ : ∃ n1 : Nat, y = (n1 : Int) := ⟨y.toNat, by omega⟩
            have hn8 : n1 < 8 := by omega
            by_cases hs64 : s.size ≤ 64
            · rcases hdnK with hd | hd
              · have HJ := Lib.hid hd
                have hd1 : (dn : Int) < (K : Int) := by omega
                go_wp2_with (fail)
                obtain ⟨W1, hW1⟩ : ∃ W1, wr.alloc (.cells #[.int .i64 1, .int .i64 ((n1 : Nat) : Int), .slice pa s.size pc, .slice ka kl kc] 37) = W1 := ⟨_, rfl⟩
                rw [hW1]
                have d1 : W1.cell? ⟨wr.heap.size, 1, none⟩ = some (.int .i64 ((n1 : Nat) : Int)) := by rw [← hW1, cell_of_row _ _ _ _ _ _ (heap_alloc_new wr _)]; rfl
                have d2 : W1.cell? ⟨wr.heap.size, 2, none⟩ = some (.slice pa s.size pc) := by rw [← hW1, cell_of_row _ _ _ _ _ _ (heap_alloc_new wr _)]; rfl
                have hb1 : Below wr.heap.size wr W1 := by rw [← hW1]; exact (Below.refl _ _).alloc (Nat.le_refl _) _
                have hH : wr.heap.size < W1.heap.size := by rw [← hW1]; simp
                have D1 := Lib.hid ((HD.out.on hb1).on ((Below.refl _ _).drew))
                have HB1 := Lib.hid (show HoldsB W1.drew pa s from (HB.out.1.below hb1).below ((Below.refl _ _).drew))
                have hHF : ¬ F' wr.heap.size := HD.out.new (Nat.le_refl _)
                have KB := Lib.hid (fun (a b : World) (hs : a.cell? ⟨wr.heap.size, 1, none⟩ = some (.int .i64 ((n1 : Nat) : Int)) ∧ a.cell? ⟨wr.heap.size, 2, none⟩ = some (.slice pa s.size pc)) (h : Below a.heap.size a b) => show b.cell? ⟨wr.heap.size, 1, none⟩ = some (.int .i64 ((n1 : Nat) : Int)) ∧ b.cell? ⟨wr.heap.size, 2, none⟩ = some (.slice pa s.size pc) from ⟨hb_cell h hs.1, hb_cell h hs.2⟩)
                have KT := Lib.hid (fun (a b : World) (hs : a.cell? ⟨wr.heap.size, 1, none⟩ = some (.int .i64 ((n1 : Nat) : Int)) ∧ a.cell? ⟨wr.heap.size, 2, none⟩ = some (.slice pa s.size pc)) (h : Touch F' a b) => show b.cell? ⟨wr.heap.size, 1, none⟩ = some (.int .i64 ((n1 : Nat) : Int)) ∧ b.cell? ⟨wr.heap.size, 2, none⟩ = some (.slice pa s.size pc) from ⟨(World.cell?_of_block (w := a) (h.block wr.heap.size (World.block_lt_of_cell? a _ hs.1) hHF)).trans hs.1, (World.cell?_of_block (w := a) (h.block wr.heap.size (World.block_lt_of_cell? a _ hs.1) hHF)).trans hs.2⟩)
                have HPN := Lib.hid HB.out.2
                clear hb1 hHF hW1
                go_region_held3 (fun w' => w'.cell? ⟨wr.heap.size, 1, none⟩ = some (.int .i64 ((n1 : Nat) : Int)) ∧ w'.cell? ⟨wr.heap.size, 2, none⟩ = some (.slice pa s.size pc)) (first | assumption | exact KB.out _ _ (by assumption) hbT | exact KT.out _ _ (by assumption) hTt | go_keep) (first | (go_at_call 20; refine (twin_any pa s pc _ (by have := HPN.out.2; omega) HB1.out HPN.out.1).mono ?_; rintro e w5 ⟨g, cap, rfl, ho, hbT⟩) | (go_at_call 19; refine (dwrite_ok (D1.out.on hbT) HT.out (HI.out.yes HJ.out) n1 hn8 g s cap ho.holds hs64 (D1.out.new ho.2.1)).mono ?_; rintro e w6 ⟨rfl, F2, hN, hTt, hGg⟩))
                have HN := Lib.hid hN
                clear hN hTt hGg
                clear hbT ho
                go_wp2_with (fail)
                go_round
                case rel => exact ⟨j + 1, dn + 1, by go_num, by go_num, by omega, by omega, by have := HK.out.2; omega, Lib.hid ⟨_, _, HN.out, HI.out.write HJ.out⟩⟩
                case measure => simp [intOf]; omega
              · have HJ := Lib.hid hd
                have hd1 : ¬ (dn : Int) < (K : Int) := by omega
                have DX : Hid (∀ W, DW w W F' G 8 M.step → Calls Try.prog 27 #[.pointer (some ⟨G, 0, none⟩)] W fun e W' => e = .returned (.bool true) ∧ W = W') := Lib.hid (fun W h => by have := down_any W F' G 8 M.step h.drum; rw [M.step_no (HI.out.no HJ.out)] at this; exact this)
                go_wp2_with (fail)
                obtain ⟨W1, hW1⟩ : ∃ W1, wr.alloc (.cells #[.int .i64 1, .int .i64 ((n1 : Nat) : Int), .slice pa s.size pc, .slice ka kl kc] 37) = W1 := ⟨_, rfl⟩
                rw [hW1]
                have d1 : W1.cell? ⟨wr.heap.size, 1, none⟩ = some (.int .i64 ((n1 : Nat) : Int)) := by rw [← hW1, cell_of_row _ _ _ _ _ _ (heap_alloc_new wr _)]; rfl
                have d2 : W1.cell? ⟨wr.heap.size, 2, none⟩ = some (.slice pa s.size pc) := by rw [← hW1, cell_of_row _ _ _ _ _ _ (heap_alloc_new wr _)]; rfl
                have hb1 : Below wr.heap.size wr W1 := by rw [← hW1]; exact (Below.refl _ _).alloc (Nat.le_refl _) _
                have hH : wr.heap.size < W1.heap.size := by rw [← hW1]; simp
                have D1 := Lib.hid ((HD.out.on hb1).on ((Below.refl _ _).drew))
                have HB1 := Lib.hid (show HoldsB W1.drew pa s from (HB.out.1.below hb1).below ((Below.refl _ _).drew))
                have hHF : ¬ F' wr.heap.size := HD.out.new (Nat.le_refl _)
                have KB := Lib.hid (fun (a b : World) (hs : a.cell? ⟨wr.heap.size, 1, none⟩ = some (.int .i64 ((n1 : Nat) : Int)) ∧ a.cell? ⟨wr.heap.size, 2, none⟩ = some (.slice pa s.size pc)) (h : Below a.heap.size a b) => show b.cell? ⟨wr.heap.size, 1, none⟩ = some (.int .i64 ((n1 : Nat) : Int)) ∧ b.cell? ⟨wr.heap.size, 2, none⟩ = some (.slice pa s.size pc) from ⟨hb_cell h hs.1, hb_cell h hs.2⟩)
                have KT := Lib.hid (fun (a b : World) (hs : a.cell? ⟨wr.heap.size, 1, none⟩ = some (.int .i64 ((n1 : Nat) : Int)) ∧ a.cell? ⟨wr.heap.size, 2, none⟩ = some (.slice pa s.size pc)) (h : Touch F' a b) => show b.cell? ⟨wr.heap.size, 1, none⟩ = some (.int .i64 ((n1 : Nat) : Int)) ∧ b.cell? ⟨wr.heap.size, 2, none⟩ = some (.slice pa s.size pc) from ⟨(World.cell?_of_block (w := a) (h.block wr.heap.size (World.block_lt_of_cell? a _ hs.1) hHF)).trans hs.1, (World.cell?_of_block (w := a) (h.block wr.heap.size (World.block_lt_of_cell? a _ hs.1) hHF)).trans hs.2⟩)
                have HPN := Lib.hid HB.out.2
                clear hb1 hHF hW1
                go_region_held3 (fun w' => w'.cell? ⟨wr.heap.size, 1, none⟩ = some (.int .i64 ((n1 : Nat) : Int)) ∧ w'.cell? ⟨wr.heap.size, 2, none⟩ = some (.slice pa s.size pc)) (first | assumption | exact KB.out _ _ (by assumption) hbT | exact KT.out _ _ (by assumption) (hTt.mono (only_F HD.out.drum.fG)) | go_keep) (first | (go_at_call 20; refine (twin_any pa s pc _ (by have := HPN.out.2; omega) HB1.out HPN.out.1).mono ?_; rintro e w5 ⟨g, cap, rfl, ho, hbT⟩) | (go_at_call 19; refine (dwrite_off (D1.out.on hbT) HT.out (HI.out.no HJ.out) n1 hn8 _ _ _ hs64).mono ?_; rintro e w6 ⟨rfl, hN, hTt⟩))
                have HN := Lib.hid hN
                clear hN hTt
                clear hbT ho
                go_wp2_with (fail)
                refine (DX.out _ HN.out).mono ?_
                rintro e w' ⟨rfl, rfl⟩
                go_wp2_with (fail)
                go_round
                case rel => exact ⟨j + 1, dn, by go_num, by go_num, by omega, by omega, by have := HK.out.2; omega, Lib.hid ⟨_, _, HN.out, (HI.out.stop HJ.out).mono (by omega)⟩⟩
                case measure => simp [intOf]; omega
            · have hs64 : 64 < s.size := by omega
              go_wp2_with (fail)
              obtain ⟨W1, hW1⟩ : ∃ W1, wr.alloc (.cells #[.int .i64 1, .int .i64 ((n1 : Nat) : Int), .slice pa s.size pc, .slice ka kl kc] 37) = W1 := ⟨_, rfl⟩
              rw [hW1]
              have d1 : W1.cell? ⟨wr.heap.size, 1, none⟩ = some (.int .i64 ((n1 : Nat) : Int)) := by rw [← hW1, cell_of_row _ _ _ _ _ _ (heap_alloc_new wr _)]; rfl
              have d2 : W1.cell? ⟨wr.heap.size, 2, none⟩ = some (.slice pa s.size pc) := by rw [← hW1, cell_of_row _ _ _ _ _ _ (heap_alloc_new wr _)]; rfl
              have hb1 : Below wr.heap.size wr W1 := by rw [← hW1]; exact (Below.refl _ _).alloc (Nat.le_refl _) _
              have hH : wr.heap.size < W1.heap.size := by rw [← hW1]; simp
              have D1 := Lib.hid ((HD.out.on hb1).on ((Below.refl _ _).drew))
              have HB1 := Lib.hid (show HoldsB W1.drew pa s from (HB.out.1.below hb1).below ((Below.refl _ _).drew))
              have hHF : ¬ F' wr.heap.size := HD.out.new (Nat.le_refl _)
              have KB := Lib.hid (fun (a b : World) (hs : a.cell? ⟨wr.heap.size, 1, none⟩ = some (.int .i64 ((n1 : Nat) : Int)) ∧ a.cell? ⟨wr.heap.size, 2, none⟩ = some (.slice pa s.size pc)) (h : Below a.heap.size a b) => show b.cell? ⟨wr.heap.size, 1, none⟩ = some (.int .i64 ((n1 : Nat) : Int)) ∧ b.cell? ⟨wr.heap.size, 2, none⟩ = some (.slice pa s.size pc) from ⟨hb_cell h hs.1, hb_cell h hs.2⟩)
              have KT := Lib.hid (fun (a b : World) (hs : a.cell? ⟨wr.heap.size, 1, none⟩ = some (.int .i64 ((n1 : Nat) : Int)) ∧ a.cell? ⟨wr.heap.size, 2, none⟩ = some (.slice pa s.size pc)) (h : Touch F' a b) => show b.cell? ⟨wr.heap.size, 1, none⟩ = some (.int .i64 ((n1 : Nat) : Int)) ∧ b.cell? ⟨wr.heap.size, 2, none⟩ = some (.slice pa s.size pc) from ⟨(World.cell?_of_block (w := a) (h.block wr.heap.size (World.block_lt_of_cell? a _ hs.1) hHF)).trans hs.1, (World.cell?_of_block (w := a) (h.block wr.heap.size (World.block_lt_of_cell? a _ hs.1) hHF)).trans hs.2⟩)
              have HPN := Lib.hid HB.out.2
              clear hb1 hHF hW1
              go_region_held3 (fun w' => w'.cell? ⟨wr.heap.size, 1, none⟩ = some (.int .i64 ((n1 : Nat) : Int)) ∧ w'.cell? ⟨wr.heap.size, 2, none⟩ = some (.slice pa s.size pc)) (first | assumption | exact KB.out _ _ (by assumption) hbT | fail | go_keep) (first | (go_at_call 20; refine (twin_any pa s pc _ (by have := HPN.out.2; omega) HB1.out HPN.out.1).mono ?_; rintro e w5 ⟨g, cap, rfl, ho, hbT⟩) | (go_at_call 19; refine (write_long _ F' G 8 M ((D1.out.on hbT).drum) n1 hn8 _ _ _ hs64).mono ?_; rintro e w6 ⟨rfl, rfl⟩))
              have HN := Lib.hid (D1.out.on hbT)
              clear hbT ho
              go_wp2_with (fail)
              go_round
              case rel => exact ⟨j + 1, dn, by go_num, by go_num, by omega, by omega, by have := HK.out.2; omega, Lib.hid ⟨_, _, HN.out, HI.out.mono (by omega)⟩⟩
              case measure => simp [intOf]; omega
          · go_wp2_with (fail)
            obtain ⟨W1, hW1⟩ : ∃ W1, wr.alloc (.cells #[.int .i64 1, .int .i64 y, .slice pa s.size pc, .slice ka kl kc] 37) = W1 := ⟨_, rfl⟩
            rw [hW1]
            have d1 : W1.cell? ⟨wr.heap.size, 1, none⟩ = some (.int .i64 y) := by rw [← hW1, cell_of_row _ _ _ _ _ _ (heap_alloc_new wr _)]; rfl
            have d2 : W1.cell? ⟨wr.heap.size, 2, none⟩ = some (.slice pa s.size pc) := by rw [← hW1, cell_of_row _ _ _ _ _ _ (heap_alloc_new wr _)]; rfl
            have hb1 : Below wr.heap.size wr W1 := by rw [← hW1]; exact (Below.refl _ _).alloc (Nat.le_refl _) _
            have hH : wr.heap.size < W1.heap.size := by rw [← hW1]; simp
            have D1 := Lib.hid ((HD.out.on hb1).on ((Below.refl _ _).drew))
            have HB1 := Lib.hid (show HoldsB W1.drew pa s from (HB.out.1.below hb1).below ((Below.refl _ _).drew))
            have hHF : ¬ F' wr.heap.size := HD.out.new (Nat.le_refl _)
            have KB := Lib.hid (fun (a b : World) (hs : a.cell? ⟨wr.heap.size, 1, none⟩ = some (.int .i64 y) ∧ a.cell? ⟨wr.heap.size, 2, none⟩ = some (.slice pa s.size pc)) (h : Below a.heap.size a b) => show b.cell? ⟨wr.heap.size, 1, none⟩ = some (.int .i64 y) ∧ b.cell? ⟨wr.heap.size, 2, none⟩ = some (.slice pa s.size pc) from ⟨hb_cell h hs.1, hb_cell h hs.2⟩)
            have KT := Lib.hid (fun (a b : World) (hs : a.cell? ⟨wr.heap.size, 1, none⟩ = some (.int .i64 y) ∧ a.cell? ⟨wr.heap.size, 2, none⟩ = some (.slice pa s.size pc)) (h : Touch F' a b) => show b.cell? ⟨wr.heap.size, 1, none⟩ = some (.int .i64 y) ∧ b.cell? ⟨wr.heap.size, 2, none⟩ = some (.slice pa s.size pc) from ⟨(World.cell?_of_block (w := a) (h.block wr.heap.size (World.block_lt_of_cell? a _ hs.1) hHF)).trans hs.1, (World.cell?_of_block (w := a) (h.block wr.heap.size (World.block_lt_of_cell? a _ hs.1) hHF)).trans hs.2⟩)
            have HPN := Lib.hid HB.out.2
            clear hb1 hHF hW1
            go_region_held3 (fun w' => w'.cell? ⟨wr.heap.size, 1, none⟩ = some (.int .i64 y) ∧ w'.cell? ⟨wr.heap.size, 2, none⟩ = some (.slice pa s.size pc)) (first | assumption | exact KB.out _ _ (by assumption) hbT | fail | go_keep) (first | (go_at_call 20; refine (twin_any pa s pc _ (by have := HPN.out.2; omega) HB1.out HPN.out.1).mono ?_; rintro e w5 ⟨g, cap, rfl, ho, hbT⟩) | (go_at_call 19; refine (write_arg _ F' G 8 M ((D1.out.on hbT).drum) y (by omega) _ _ _).mono ?_; rintro e w6 ⟨rfl, rfl⟩))
            have HN := Lib.hid (D1.out.on hbT)
            clear hbT ho
            go_wp2_with (fail)
            go_round
            case rel => exact ⟨j + 1, dn, by go_num, by go_num, by omega, by omega, by have := HK.out.2; omega, Lib.hid ⟨_, _, HN.out, HI.out.mono (by omega)⟩⟩
            case measure => simp [intOf]; omega
        · by_cases hk2 : kind = 2
          · subst hk2
            rcases hdnK with hd | hd
            · have HJ := Lib.hid hd
              have hd1 : (dn : Int) < (K : Int) := by omega
              go_wp2_with (fail)
              refine (dflush_ok (HD.out.alloc _) HT.out (HI.out.yes HJ.out)).mono ?_
              rintro e w' ⟨rfl, hN, _⟩
              have HN := Lib.hid hN
              clear hN
              go_wp2_with (fail)
              go_round
              case rel => exact ⟨j + 1, dn + 1, by go_num, by go_num, by omega, by omega, by have := HK.out.2; omega, Lib.hid ⟨_, _, HN.out, (HI.out.flush HJ.out).mono (by omega)⟩⟩
              case measure => simp [intOf]; omega
            · have HJ := Lib.hid hd
              have hd1 : ¬ (dn : Int) < (K : Int) := by omega
              have DX : Hid (∀ W, DW w W F' G 8 M.step → Calls Try.prog 27 #[.pointer (some ⟨G, 0, none⟩)] W fun e W' => e = .returned (.bool true) ∧ W = W') := Lib.hid (fun W h => by have := down_any W F' G 8 M.step h.drum; rw [M.step_no (HI.out.no HJ.out)] at this; exact this)
              go_wp2_with (fail)
              refine (dflush_off (HD.out.alloc _) HT.out (HI.out.no HJ.out)).mono ?_
              rintro e w' ⟨rfl, hN, _⟩
              rw [M.flush_no (HI.out.no HJ.out)] at hN
              have HN := Lib.hid hN
              clear hN
              go_wp2_with (fail)
              refine (DX.out _ HN.out).mono ?_
              rintro e w' ⟨rfl, rfl⟩
              go_wp2_with (fail)
              go_round
              case rel => exact ⟨j + 1, dn, by go_num, by go_num, by omega, by omega, by have := HK.out.2; omega, Lib.hid ⟨_, _, HN.out, (HI.out.stop HJ.out).mono (by omega)⟩⟩
              case measure => simp [intOf]; omega
          · have k0 : (kind == 0) = false := by rw [beq_eq_false_iff_ne]; omega
            have k1 : (kind == 1) = false := by rw [beq_eq_false_iff_ne]; omega
            have k2 : (kind == 2) = false := by rw [beq_eq_false_iff_ne]; omega
            go_wp2_with (fail)
            go_round
            case rel => exact ⟨j + 1, dn, by go_num, by go_num, by omega, by omega, hdn, Lib.hid ⟨_, _, HD.out.alloc _, HI.out.mono (by omega)⟩⟩
            case measure => simp [intOf]; omega
    · have hm : j = L ∨ (j < L ∧ j = 200) := by omega
      have S1 := Lib.hid (fun W (h : DW w W F' G 8 M) => (steps_any W F' G 8 M h.drum).mono (fun e W' hh => (show e = .returned (.int .i64 (dn : Int)) ∧ W = W' from ⟨by rw [hh.1, HI.out.steps], hh.2⟩)))
      have C1 := Lib.hid (fun W (h : DW w W F' G 8 M) => dcrash h HT.out none [] 0 (fun h => absurd h (by decide)) (by decide) (fun a e => by cases e))
      have hM2 : (M.crash []).off = false := rfl
      have hT2 : Tame (M.crash []) := ⟨HT.out.steps, Nat.zero_le _, Nat.zero_le _⟩
      have R1 := Lib.hid (fun W (h : DW w W F' G 8 (M.crash [])) => dread_ok h hT2 hM2 0 (by decide))
      have DN := Lib.hid (fun W (h : DW w W F' G 8 (M.crash []).step) => (down_any W F' G 8 _ h.drum).mono (fun e W' hh => (show e = .returned (.bool false) ∧ W = W' from ⟨by rw [hh.1, DM.step_down _ hM2]; rfl, hh.2⟩)))
      have S2 := Lib.hid (fun W (h : DW w W F' G 8 (M.crash []).step) => (steps_any W F' G 8 _ h.drum).mono (fun e W' hh => (show e = .returned (.int .i64 ((dn : Int) + 1)) ∧ W = W' from ⟨by rw [hh.1, DM.step_steps _ hM2]; show Ending.returned (.int .i64 ((M.steps + 1 : Nat) : Int)) = _; rw [HI.out.steps]; rfl, hh.2⟩)))
      clear hM2 hT2
      rcases hm with rfl | ⟨hlt, rfl⟩
      · go_wp2_with (fail)
        first | refine (S1.out _ HD.out).mono ?_ | refine (S1.out _ (HD.out.alloc _)).mono ?_
        rintro e w' ⟨rfl, rfl⟩
        go_wp2_with (fail)
        first | refine (C1.out _ HD.out).mono ?_ | refine (C1.out _ (HD.out.alloc _)).mono ?_
        rintro e w5 ⟨rfl, hN, _⟩
        have H5 := Lib.hid hN
        clear hN
        go_wp2_with (fail)
        refine (R1.out _ H5.out).mono ?_
        rintro e w6 ⟨g, rfl, hN, _, _, _, _⟩
        have H6 := Lib.hid hN
        clear hN
        go_wp2_with (first | (go_at_call 27; refine (DN.out _ H6.out).mono ?_; rintro e w' ⟨rfl, rfl⟩) | (go_at_call 28; refine (S2.out _ H6.out).mono ?_; rintro e w' ⟨rfl, rfl⟩))
        go_ret
        exact ⟨ret_bool (by simp), H6.out.below⟩
      · obtain ⟨b, off, rfl, hc⟩ := (HP.out.below HD.out.below) (by rw [HL.out]; omega)
        obtain ⟨pa, pc, ka, kc, c0, c1, c2, c3, hB, hpn, hps, _, _, _, hkb, hnb⟩ := hc 200 (by rw [HL.out]; exact hlt)
        obtain ⟨x, hx⟩ : ∃ x, l[200]'(by rw [HL.out]; exact hlt) = x := ⟨_, rfl⟩
        rw [hx] at c0 c1 c2 c3
        have hlt' : ((200 : Nat) : Int) < (L : Int) := by omega
        clear hc hx hB hpn hps
        go_wp2_with (fail)
        first | refine (S1.out _ HD.out).mono ?_ | refine (S1.out _ (HD.out.alloc _)).mono ?_
        rintro e w' ⟨rfl, rfl⟩
        go_wp2_with (fail)
        first | refine (C1.out _ HD.out).mono ?_ | refine (C1.out _ (HD.out.alloc _)).mono ?_
        rintro e w5 ⟨rfl, hN, _⟩
        have H5 := Lib.hid hN
        clear hN
        go_wp2_with (fail)
        refine (R1.out _ H5.out).mono ?_
        rintro e w6 ⟨g, rfl, hN, _, _, _, _⟩
        have H6 := Lib.hid hN
        clear hN
        go_wp2_with (first | (go_at_call 27; refine (DN.out _ H6.out).mono ?_; rintro e w' ⟨rfl, rfl⟩) | (go_at_call 28; refine (S2.out _ H6.out).mono ?_; rintro e w' ⟨rfl, rfl⟩))
        go_ret
        exact ⟨ret_bool (by simp), H6.out.below⟩
end Go.Proofs.Ytpcnbnfbiifakaa
