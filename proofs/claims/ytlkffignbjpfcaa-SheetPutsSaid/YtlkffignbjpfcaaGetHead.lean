/- Proved here: what GetHead tells of a drum. -/
import Derived.Test.YtlkffignbjpfcaaHeadDisk
namespace Go.Proofs.Ytlkffignbjpfcaa
open Go.RowKit

/-- The newest of heads that were seen. -/
def updH (acc : Nat × Nat) (x : Nat × Nat × Nat) : Nat × Nat := if x.2.2 = 0 ∧ acc.1 < x.1 then (x.1, x.2.1) else acc
def accH (M : DM) : Nat → Nat × Nat
  | 0 => (0, 0)
  | k + 1 => updH (accH M k) (headR (bl (M.now.getD k ⟨#[]⟩)))
def stepsM (M : DM) : Nat → DM
  | 0 => M
  | k + 1 => (stepsM M k).step
theorem stepsM_now (M : DM) : ∀ k, (stepsM M k).now = M.now
  | 0 => rfl
  | k + 1 => by rw [stepsM, DM.step_now, stepsM_now M k]
structure Calm (M : DM) : Prop where
  fuse : M.fuse = none
  down : M.down = false
  steps : M.steps ≤ 1000000
  loose : M.loose.length ≤ 1000000
theorem Calm.off {M : DM} (h : Calm M) : M.off = false := by unfold DM.off; rw [h.fuse, h.down]; rfl
theorem Calm.tame {M : DM} (h : Calm M) : Tame M := ⟨by have := h.steps; omega, by rw [h.fuse]; exact Nat.zero_le _, by have := h.loose; omega⟩
theorem calm_steps {M : DM} (h : Calm M) (hs : M.steps ≤ 999990) : ∀ k, k ≤ 2 → Calm (stepsM M k) ∧ (stepsM M k).steps = M.steps + k
  | 0, _ => ⟨h, rfl⟩
  | k + 1, hk => by
    obtain ⟨c, e⟩ := calm_steps h hs k (by omega)
    have hs' := DM.step_steps _ c.off
    refine ⟨⟨?_, ?_, ?_, ?_⟩, ?_⟩
    · rw [stepsM, DM.step_fuse _ c.off, c.fuse]; rfl
    · rw [stepsM, DM.step_down _ c.off, c.down]
    · rw [stepsM, hs', e]; omega
    · rw [stepsM, DM.step_loose]; exact c.loose
    · rw [stepsM, hs', e, Nat.add_assoc]
theorem headR_gen (l : List UInt8) : (headR l).1 < 4294967296 := by
  unfold headR
  by_cases h : l.length ≠ 64
  · rw [if_pos h]; decide
  · rw [if_neg h]
    cases sealed l
    · rw [if_pos rfl]; decide
    · rw [if_neg (by simp)]
      by_cases h2 : 1 ≤ valN ((l.drop 8).take 4) ∧ headL (valN ((l.drop 8).take 4)) (valN ((l.drop 12).take 8)) = l
      · rw [if_pos h2]
        have h3 := valG_lt ((l.drop 8).take 4)
        have h4 : ((l.drop 8).take 4).length = 4 := by
          have : l.length = 64 := Decidable.not_not.1 h
          rw [List.length_take, List.length_drop, this]; rfl
        rw [h4] at h3
        exact h3
      · rw [if_neg h2]; decide
def GetRel (w : World) (F : Nat → Prop) (G N : Nat) (M : DM) (R Q : Nat) (x : Value) (wr : World) : Prop :=
  ∃ k : Nat, x = .int .i64 (k : Int) ∧ k ≤ 2 ∧ Hid (DW w wr F G N (stepsM M k) ∧ wr.heap[R]? = some (.cells #[.int .i64 0, .int .u64 0] 56 (0, 0)) ∧ wr.heap[Q]? = some (.cells #[.int .i64 ((accH M k).1 : Int), .int .u64 ((accH M k).2 : Int)] 56 (0, 0)) ∧ ¬ F R ∧ ¬ F Q ∧ G ≠ R ∧ G ≠ Q ∧ R ≠ Q)
def GetPost (w : World) (F : Nat → Prop) (G N : Nat) (M : DM) (e : Ending) (W' : World) : Prop :=
  e = .returned (.tuple (if (accH M 2).1 = 0 then #[.agg #[.int .i64 0, .int .u64 0], .int .i64 11] else #[.agg #[.int .i64 ((accH M 2).1 : Int), .int .u64 ((accH M 2).2 : Int)], .int .i64 0])) ∧ Below w.heap.size w W'
set_option maxRecDepth 100000 in
set_option maxHeartbeats 8000000 in
theorem gethead_ok {w W : World} {F : Nat → Prop} {G N : Nat} {M : DM} (h : DW w W F G N M) (hc : Calm M) (hs : M.steps ≤ 999990) (h1 : 64 ≤ N) (h2 : N ≤ 16384) :
    Calls Try.prog 18 #[.pointer (some ⟨G, 0, none⟩)] W (GetPost w F G N M) := by
  obtain ⟨WA, hWA⟩ : ∃ WA, W.alloc (.cells #[.int .i64 0, .int .u64 0] 56) = WA := ⟨_, rfl⟩
  have nA : WA.heap[W.heap.size]? = some (.cells #[.int .i64 0, .int .u64 0] 56 (0, 0)) := by rw [← hWA]; exact heap_alloc_new _ _
  have bA : Below W.heap.size W WA := by rw [← hWA]; exact (Below.refl _ _).alloc (Nat.le_refl _) _
  have PL := Lib.hid (plan_ok (h.on bA).drum h1 h2)
  have HH := Lib.hid (And.intro h (And.intro hc (And.intro hs (And.intro h1 h2))))
  have HA := Lib.hid (And.intro nA bA)
  obtain ⟨X, hX⟩ : ∃ X, GetPost w F G N M = X := ⟨_, rfl⟩
  rw [hX]
  have HX := Lib.hid hX
  clear nA bA h hc hs h1 h2 hX
  unfold planV at PL
  generalize N / 4 = L at *
  generalize 2 + L = B at *
  generalize (N - B) / 8 = P at *
  go_enter Try.func18, Try.ntmps18
  go_wp2_with (fail)
  refine PL.out.mono ?_
  rintro e W1 ⟨rfl, hb⟩
  obtain ⟨W2, hW2⟩ : ∃ W2, W1.alloc (.cells #[.int .i64 (L : Int), .int .i64 (B : Int), .int .i64 (P : Int)] 89) = W2 := ⟨_, rfl⟩
  have b12 : Below W1.heap.size W1 W2 := by rw [← hW2]; exact (Below.refl _ _).alloc (Nat.le_refl _) _
  have s2 : W2.heap.size = W1.heap.size + 1 := by rw [← hW2]; simp
  obtain ⟨W3, hW3⟩ : ∃ W3, W2.alloc (.cells #[.int .i64 0, .int .u64 0] 56) = W3 := ⟨_, rfl⟩
  have n3 : W3.heap[W2.heap.size]? = some (.cells #[.int .i64 0, .int .u64 0] 56 (0, 0)) := by rw [← hW3]; exact heap_alloc_new _ _
  have b23 : Below W2.heap.size W2 W3 := by rw [← hW3]; exact (Below.refl _ _).alloc (Nat.le_refl _) _
  have bA3 := below_cat hb (below_cat b12 b23)
  have m3 := (bA3.block _ (blk_lt2 HA.out.1)).trans HA.out.1
  have hlt := HH.out.1.drum.lt
  have hG := hlt G HH.out.1.drum.fG
  have szA := blk_lt2 HA.out.1
  have sz1 : WA.heap.size ≤ W1.heap.size := hb.size
  have H3 := Lib.hid (show DW w W3 F G N M ∧ W3.heap[W.heap.size]? = some (.cells #[.int .i64 0, .int .u64 0] 56 (0, 0)) ∧ W3.heap[W2.heap.size]? = some (.cells #[.int .i64 0, .int .u64 0] 56 (0, 0)) ∧ ¬ F W.heap.size ∧ ¬ F W2.heap.size ∧ G ≠ W.heap.size ∧ G ≠ W2.heap.size ∧ W.heap.size ≠ W2.heap.size from
    ⟨HH.out.1.on (below_cat HA.out.2 bA3), m3, n3, fun f => by have := hlt _ f; omega, fun f => by have := hlt _ f; omega, by omega, by omega, by omega⟩)
  obtain ⟨Q, hQ⟩ : ∃ Q, W2.heap.size = Q := ⟨_, rfl⟩
  rw [hQ] at H3
  have hQ1 : W1.heap.size + 1 = Q := by rw [← s2]; exact hQ
  have HQW := Lib.hid (show w.heap.size ≤ Q by have := HH.out.1.below.size; have := HA.out.2.size; omega)
  clear hb b12 b23 bA3 m3 n3 hlt hG szA sz1 PL hWA s2
  go_wp2_with (fail)
  clear hW2 hW3
  go_loopw [21] (fun x wr => GetRel w F G N M W.heap.size Q x wr) (fun x _ => 2 - (intOf x).toNat)
  case atStart => exact ⟨0, rfl, Nat.zero_le _, Lib.hid H3.out⟩
  case round =>
    obtain ⟨k, rfl, hk, HR⟩ := hrel
    obtain ⟨r1, r2, r3, r4, r5, r6, r7, r8⟩ := HR.out
    by_cases hlt : k < 2
    · obtain ⟨hcalm, _⟩ := calm_steps HH.out.2.1 HH.out.2.2.1 k (by omega)
      have RD := dread_ok r1 hcalm.tame hcalm.off k (by have := HH.out.2.2.2.1; omega)
      rw [stepsM_now] at RD
      have hst : accH M (k + 1) = updH (accH M k) (headR (bl (M.now.getD k ⟨#[]⟩))) := rfl
      obtain ⟨row, hrow⟩ : ∃ row, M.now.getD k ⟨#[]⟩ = row := ⟨_, rfl⟩
      rw [hrow] at RD hst
      obtain ⟨x, hx⟩ : ∃ x, headR (bl row) = x := ⟨_, rfl⟩
      have hxg := headR_gen (bl row)
      rw [hx] at hst hxg
      have HRD := Lib.hid RD
      have HXX := Lib.hid (And.intro hx hst)
      obtain ⟨acc, hacc⟩ : ∃ acc, accH M k = acc := ⟨_, rfl⟩
      have HAC := Lib.hid hacc
      clear r1 r2 r3 r4 r5 r6 r7 r8 RD hcalm hst hrow hx hacc
      go_wp2_with (fail)
      refine HRD.out.mono ?_
      rintro e W4 ⟨g4, rfl, d4, o4, z4, nf4, t4⟩
      have m4 := (t4.block W.heap.size (blk_lt2 HR.out.2.1) (fun e => HR.out.2.2.2.2.2.1 e.symm)).trans HR.out.2.1
      have q4 := (t4.block Q (blk_lt2 HR.out.2.2.1) (fun e => HR.out.2.2.2.2.2.2.1 e.symm)).trans HR.out.2.2.1
      rw [HAC.out] at q4
      have TH := takehead_any (some ⟨g4, 0, none⟩) row 64 64 W4 z4 (Nat.le_refl _) o4.holds
      rw [HXX.out.1] at TH
      have T4 := Lib.hid TH
      have H4 := Lib.hid (And.intro d4 (And.intro m4 q4))
      clear d4 o4 z4 nf4 t4 m4 q4 TH HRD
      go_wp2_with (fail)
      refine T4.out.mono ?_
      rintro e W5 ⟨rfl, hb⟩
      obtain ⟨W6, hW6⟩ : ∃ W6, W5.alloc (.cells #[.int .i64 (x.1 : Int), .int .u64 (x.2.1 : Int)] 56) = W6 := ⟨_, rfl⟩
      have n6 : W6.heap[W5.heap.size]? = some (.cells #[.int .i64 (x.1 : Int), .int .u64 (x.2.1 : Int)] 56 (0, 0)) := by rw [← hW6]; exact heap_alloc_new _ _
      have b56 : Below W5.heap.size W5 W6 := by rw [← hW6]; exact (Below.refl _ _).alloc (Nat.le_refl _) _
      have b46 := below_cat hb b56
      have d6 := H4.out.1.on b46
      have m6 := (b46.block _ (blk_lt2 H4.out.2.1)).trans H4.out.2.1
      have q6 := (b46.block _ (blk_lt2 H4.out.2.2)).trans H4.out.2.2
      have x0 : W6.cell? ⟨W5.heap.size, 0, none⟩ = some (.int .i64 (x.1 : Int)) := by rw [cell_of_row _ _ _ _ _ _ n6]; rfl
      have x1 : W6.cell? ⟨W5.heap.size, 1, none⟩ = some (.int .u64 (x.2.1 : Int)) := by rw [cell_of_row _ _ _ _ _ _ n6]; rfl
      have a0 : W6.cell? ⟨Q, 0, none⟩ = some (.int .i64 (acc.1 : Int)) := by rw [cell_of_row _ _ _ _ _ _ q6]; rfl
      have a1 : W6.cell? ⟨Q, 1, none⟩ = some (.int .u64 (acc.2 : Int)) := by rw [cell_of_row _ _ _ _ _ _ q6]; rfl
      have f0 : W6.frozen? ⟨Q, 0, none⟩ = false := frozen_of_row _ _ _ _ _ q6
      have f1 : W6.frozen? ⟨Q, 1, none⟩ = false := frozen_of_row _ _ _ _ _ q6
      have H6 := Lib.hid (And.intro d6 (And.intro m6 q6))
      clear hb n6 b56 b46 d6 m6 q6 T4
      by_cases he : x.2.2 = 0
      · have te : ((x.2.2 : Int) == 0) = true := by rw [beq_iff_eq]; omega
        by_cases hg : acc.1 < x.1
        · have tg : (acc.1 : Int) < (x.1 : Int) := by omega
          have hup : accH M (k + 1) = (x.1, x.2.1) := by rw [HXX.out.2, HAC.out]; unfold updH; rw [if_pos ⟨he, hg⟩]
          have HU := Lib.hid hup
          clear he hg hup
          go_wp2_with (fail)
          go_roundw
          case rel =>
            have hne6 : W.heap.size ≠ Q := HR.out.2.2.2.2.2.2.2
            refine ⟨k + 1, by go_num, by omega, Lib.hid ⟨?_, ?_, ?_, HR.out.2.2.2.1, HR.out.2.2.2.2.1, HR.out.2.2.2.2.2.1, HR.out.2.2.2.2.2.2.1, hne6⟩⟩
            · refine ⟨?_, (H6.out.1.below.setCell HQW.out _).setCell HQW.out _, H6.out.1.since⟩
              refine H6.out.1.drum.kept (fun j hj => ?_) (by show _ ≤ ((W6.setCell _ _).setCell _ _).heap.size; rw [set_size, set_size]; exact Nat.le_refl _)
              have hjQ : j ≠ Q := fun e => HR.out.2.2.2.2.1 (e ▸ hj)
              exact (set_other j hjQ).trans (set_other j hjQ)
            · exact ((set_other _ hne6).trans (set_other _ hne6)).trans H6.out.2.1
            · rw [HU.out]
              exact u_row (k := 1) (.int .u64 (x.2.1 : Int)) (u_row (k := 0) (.int .i64 (x.1 : Int)) H6.out.2.2)
          case measure => simp [intOf]; omega
        · have tg : ¬ (acc.1 : Int) < (x.1 : Int) := by omega
          have hup : accH M (k + 1) = acc := by rw [HXX.out.2, HAC.out]; unfold updH; rw [if_neg (fun h => hg h.2)]
          have HU := Lib.hid hup
          clear he hg hup
          go_wp2_with (fail)
          go_roundw
          case rel => exact ⟨k + 1, by go_num, by omega, Lib.hid ⟨H6.out.1, H6.out.2.1, by rw [HU.out]; exact H6.out.2.2, HR.out.2.2.2⟩⟩
          case measure => simp [intOf]; omega
      · have te : ((x.2.2 : Int) == 0) = false := by rw [beq_eq_false_iff_ne]; omega
        have hup : accH M (k + 1) = acc := by rw [HXX.out.2, HAC.out]; unfold updH; rw [if_neg (fun h => he h.1)]
        have HU := Lib.hid hup
        clear he hup
        go_wp2_with (fail)
        go_roundw
        case rel => exact ⟨k + 1, by go_num, by omega, Lib.hid ⟨H6.out.1, H6.out.2.1, by rw [HU.out]; exact H6.out.2.2, HR.out.2.2.2⟩⟩
        case measure => simp [intOf]; omega
    · obtain rfl : k = 2 := by omega
      have x0 : wr.cell? ⟨Q, 0, none⟩ = some (.int .i64 ((accH M 2).1 : Int)) := by rw [cell_of_row _ _ _ _ _ _ r3]; rfl
      have x1 : wr.cell? ⟨Q, 1, none⟩ = some (.int .u64 ((accH M 2).2 : Int)) := by rw [cell_of_row _ _ _ _ _ _ r3]; rfl
      have a0 : wr.cell? ⟨W.heap.size, 0, none⟩ = some (.int .i64 0) := by rw [cell_of_row _ _ _ _ _ _ r2]; rfl
      have a1 : wr.cell? ⟨W.heap.size, 1, none⟩ = some (.int .u64 0) := by rw [cell_of_row _ _ _ _ _ _ r2]; rfl
      have f0 : wr.frozen? ⟨W.heap.size, 0, none⟩ = false := frozen_of_row _ _ _ _ _ r2
      have f1 : wr.frozen? ⟨W.heap.size, 1, none⟩ = false := frozen_of_row _ _ _ _ _ r2
      have HB := Lib.hid r1.below
      have hwW : w.heap.size ≤ W.heap.size := HH.out.1.below.size
      clear r1 r2 r3 r4 r5 r6 r7 r8
      by_cases hz : (accH M 2).1 = 0
      · have hX : GetPost w F G N M = fun e W' => e = .returned (.tuple #[.agg #[.int .i64 0, .int .u64 0], .int .i64 11]) ∧ Below w.heap.size w W' := by
          unfold GetPost; rw [if_pos hz]
        have HX2 := Lib.hid (HX.out.symm.trans hX)
        have tz : (((accH M 2).1 : Int) == 0) = true := by rw [beq_iff_eq]; omega
        clear hz hX
        go_wp2_with (fail)
        rw [HX2.out]
        (try simp only [Exit.inBlock, Exit.then])
        refine bodyPost_ret (v := .tuple #[.agg #[.int .i64 0, .int .u64 0], .int .i64 11]) ?_ rfl ⟨rfl, ?_⟩
        · rw [results_cell_tmp rfl]
          go_simp
        · first | exact HB.out | exact (HB.out.setCell hwW _).setCell hwW _
      · have hX : GetPost w F G N M = fun e W' => e = .returned (.tuple #[.agg #[.int .i64 ((accH M 2).1 : Int), .int .u64 ((accH M 2).2 : Int)], .int .i64 0]) ∧ Below w.heap.size w W' := by
          unfold GetPost; rw [if_neg hz]
        have HX2 := Lib.hid (HX.out.symm.trans hX)
        have tz : (((accH M 2).1 : Int) == 0) = false := by rw [beq_eq_false_iff_ne]; omega
        clear hz hX
        go_wp2_with (fail)
        rw [HX2.out]
        (try simp only [Exit.inBlock, Exit.then])
        refine bodyPost_ret (v := .tuple #[.agg #[.int .i64 ((accH M 2).1 : Int), .int .u64 ((accH M 2).2 : Int)], .int .i64 0]) ?_ rfl ⟨rfl, ?_⟩
        · rw [results_cell_tmp rfl]
          go_simp
        · first | exact HB.out | exact (HB.out.setCell hwW _).setCell hwW _
end Go.Proofs.Ytlkffignbjpfcaa
