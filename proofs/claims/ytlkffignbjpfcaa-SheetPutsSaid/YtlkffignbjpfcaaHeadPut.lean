/- Proved here: PutHead and GetHead of the program on a calm drum, with a plan or without: each answer, the sectors behind it. -/
import Derived.Test.YtlkffignbjpfcaaGetAny
import Derived.Test.YtlkffignbjpfcaaHeadAny
import Derived.Test.YtlkffignbjpfcaaLastsPlain
namespace Go.Proofs.Ytlkffignbjpfcaa
open Go.RowKit

set_option maxRecDepth 100000 in
set_option maxHeartbeats 4000000 in
theorem puthead_went {w W : World} {F : Nat → Prop} {G N : Nat} {M : DM} (h : DW w W F G N M) (ht : Tame M) (hoff : M.off = false) (h1 : 64 ≤ N) (h2 : N ≤ 16384) (gen st : Nat) (g1 : 1 ≤ gen) (g2 : gen ≤ 4294967295) (hst : st < 18446744073709551616) :
    Calls Try.prog 16 #[.pointer (some ⟨G, 0, none⟩), .agg #[.int .i64 (gen : Int), .int .u64 (st : Int)]] W fun e W' => e = .returned (.int .i64 0) ∧ ∃ F', DW w W' F' G N (M.write (gen % 2) (headB gen st)) ∧ Went F F' W W' := by
  obtain ⟨WA, hWA⟩ : ∃ WA, W.alloc (.cells #[.int .i64 (gen : Int), .int .u64 (st : Int)] 56) = WA := ⟨_, rfl⟩
  have nA : WA.heap[W.heap.size]? = some (.cells #[.int .i64 (gen : Int), .int .u64 (st : Int)] 56 (0, 0)) := by rw [← hWA]; exact heap_alloc_new _ _
  have bA : Below W.heap.size W WA := by rw [← hWA]; exact (Below.refl _ _).alloc (Nat.le_refl _) _
  have PL := Lib.hid (plan_ok (h.on bA).drum h1 h2)
  have HH := Lib.hid (And.intro h (And.intro ht (And.intro hoff (And.intro (And.intro h1 h2) (And.intro g1 (And.intro g2 hst))))))
  have HA := Lib.hid (And.intro nA bA)
  have hg : (gen : Int) % 2 = ((gen % 2 : Nat) : Int) := by omega
  have hg0 : (0 : Int) ≤ (gen : Int) := by omega
  clear nA bA h ht hoff h1 h2 g1 g2 hst
  unfold planV at PL
  generalize hm : gen % 2 = m at *
  have HM := Lib.hid hm
  clear hm
  generalize N / 4 = L at *
  generalize 2 + L = B at *
  generalize (N - B) / 8 = P at *
  go_enter Try.func16, Try.ntmps16
  go_wp2_with (fail)
  refine PL.out.mono ?_
  rintro e W1 ⟨rfl, hb⟩
  obtain ⟨W2, hW2⟩ : ∃ W2, W1.alloc (.cells #[.int .i64 (L : Int), .int .i64 (B : Int), .int .i64 (P : Int)] 89) = W2 := ⟨_, rfl⟩
  have b12 : Below W1.heap.size W1 W2 := by rw [← hW2]; exact (Below.refl _ _).alloc (Nat.le_refl _) _
  have n2 := ((below_cat hb b12).block _ (blk_lt2 HA.out.1)).trans HA.out.1
  have d0 : W2.cell? ⟨W.heap.size, 0, none⟩ = some (.int .i64 (gen : Int)) := by rw [cell_of_row _ _ _ _ _ _ n2]; rfl
  have d1 : W2.cell? ⟨W.heap.size, 1, none⟩ = some (.int .u64 (st : Int)) := by rw [cell_of_row _ _ _ _ _ _ n2]; rfl
  have H2 := Lib.hid (And.intro n2 (below_cat HA.out.2 (below_cat hb b12)))
  clear hb b12 n2 PL hWA
  go_wp2_with (fail)
  clear hW2 d0 d1
  refine (layhead_ok gen st HH.out.2.2.2.2.1 HH.out.2.2.2.2.2.1 HH.out.2.2.2.2.2.2 W2).mono ?_
  rintro e W3 ⟨r, rfl, g3, c3, rfl, ho, hb⟩
  have n3 := (hb.block _ (blk_lt2 H2.out.1)).trans H2.out.1
  have d0 : W3.cell? ⟨W.heap.size, 0, none⟩ = some (.int .i64 (gen : Int)) := by rw [cell_of_row _ _ _ _ _ _ n3]; rfl
  have D3 := HH.out.1.on (below_cat H2.out.2 hb)
  have WB := Lib.hid (Went.of_below (F := F) (below_cat H2.out.2 hb))
  have hnew : ¬ F g3 := (HH.out.1.on H2.out.2).new ho.2.1
  have hmN : m < N := by have := HH.out.2.2.2.1.1; have := HM.out; omega
  have WR := dwrite_ok D3 HH.out.2.1 HH.out.2.2.1 m hmN g3 (headB gen st) c3 ho.holds (by rw [headB_size]; decide) hnew
  rw [headB_size] at WR
  have HW := Lib.hid WR
  rw [headL_length]
  clear ho hb n3 D3 hnew WR
  go_wp2_with (fail)
  refine HW.out.mono ?_
  rintro e W4 ⟨rfl, F', hd, ht, hgr⟩
  have HD := Lib.hid (And.intro hd (WB.out.trans ⟨ht, hgr⟩))
  clear hd HW ht hgr
  go_wp2_with (fail)
  go_ret
  exact ⟨rfl, F', HD.out⟩
theorem fin_set {w W wr : World} {F : Nat → Prop} {G N : Nat} {M : DM} (h : DW w wr F G N M) (ht : Touch (Only G) W wr) (hF : ¬ F W.heap.size) (hlt : W.heap.size < wr.heap.size) (hw : w.heap.size ≤ W.heap.size) : ∀ W', (W' = wr ∨ ∃ v u, W' = (wr.setCell ⟨W.heap.size, 0, none⟩ v).setCell ⟨W.heap.size, 1, none⟩ u) → DW w W' F G N M ∧ Touch (Only G) W W' := by
  intro W' hW
  rcases hW with rfl | ⟨v, u, rfl⟩
  · exact ⟨h, ht⟩
  · have t2 : Touch (Only W.heap.size) wr ((wr.setCell ⟨W.heap.size, 0, none⟩ v).setCell ⟨W.heap.size, 1, none⟩ u) := ((Touch.refl _ _).set1 _).set1 _
    refine ⟨⟨h.drum.kept (fun j hj => t2.block j (h.drum.lt j hj) (fun e => hF (by have e' : j = W.heap.size := e; rw [← e']; exact hj))) t2.size, ?_, h.since⟩, ht.trans t2 (fun j e => by have e' : j = W.heap.size := e; exact .inr ⟨by omega, by omega⟩)⟩
    exact h.below.trans (t2.below (fun j e => by have e' : j = W.heap.size := e; omega) h.below.size)
def GetRelT (w W : World) (F : Nat → Prop) (G N : Nat) (M : DM) (R Q : Nat) (x : Value) (wr : World) : Prop :=
  ∃ k : Nat, x = .int .i64 (k : Int) ∧ k ≤ 2 ∧ Hid (DW w wr F G N (stepsM M k) ∧ wr.heap[R]? = some (.cells #[.int .i64 0, .int .u64 0] 56 (0, 0)) ∧ wr.heap[Q]? = some (.cells #[.int .i64 ((accH M k).1 : Int), .int .u64 ((accH M k).2 : Int)] 56 (0, 0)) ∧ ¬ F R ∧ ¬ F Q ∧ G ≠ R ∧ G ≠ Q ∧ R ≠ Q ∧ Touch (Only G) W wr)
def GetPostT (w W : World) (F : Nat → Prop) (G N : Nat) (M : DM) (e : Ending) (W' : World) : Prop :=
  e = .returned (.tuple (if (accH M 2).1 = 0 then #[.agg #[.int .i64 0, .int .u64 0], .int .i64 11] else #[.agg #[.int .i64 ((accH M 2).1 : Int), .int .u64 ((accH M 2).2 : Int)], .int .i64 0])) ∧ DW w W' F G N (stepsM M 2) ∧ Touch (Only G) W W'
set_option maxRecDepth 100000 in
set_option maxHeartbeats 8000000 in
theorem gethead_went {w W : World} {F : Nat → Prop} {G N : Nat} {M : DM} (h : DW w W F G N M) (hc : Calm M) (hs : M.steps ≤ 999990) (h1 : 64 ≤ N) (h2 : N ≤ 16384) :
    Calls Try.prog 18 #[.pointer (some ⟨G, 0, none⟩)] W (GetPostT w W F G N M) := by
  obtain ⟨WA, hWA⟩ : ∃ WA, W.alloc (.cells #[.int .i64 0, .int .u64 0] 56) = WA := ⟨_, rfl⟩
  have nA : WA.heap[W.heap.size]? = some (.cells #[.int .i64 0, .int .u64 0] 56 (0, 0)) := by rw [← hWA]; exact heap_alloc_new _ _
  have bA : Below W.heap.size W WA := by rw [← hWA]; exact (Below.refl _ _).alloc (Nat.le_refl _) _
  have PL := Lib.hid (plan_ok (h.on bA).drum h1 h2)
  have HH := Lib.hid (And.intro h (And.intro hc (And.intro hs (And.intro h1 h2))))
  have HA := Lib.hid (And.intro nA bA)
  obtain ⟨X, hX⟩ : ∃ X, GetPostT w W F G N M = X := ⟨_, rfl⟩
  rw [hX]
  have HX := Lib.hid hX
  clear nA bA h hc hs h1 h2 hX
  unfold planV at PL
  generalize N / 4 = L at *
  generalize 2 + L = B at *
  generalize (N - B) / 8 = P at *
  go_enter Try.func18, Try.ntmps18
  go_wp2_with (fail)
  refine PL.out.mono ?_
  rintro e W1 ⟨rfl, hb⟩
  obtain ⟨W2, hW2⟩ : ∃ W2, W1.alloc (.cells #[.int .i64 (L : Int), .int .i64 (B : Int), .int .i64 (P : Int)] 89) = W2 := ⟨_, rfl⟩
  have b12 : Below W1.heap.size W1 W2 := by rw [← hW2]; exact (Below.refl _ _).alloc (Nat.le_refl _) _
  have s2 : W2.heap.size = W1.heap.size + 1 := by rw [← hW2]; simp
  obtain ⟨W3, hW3⟩ : ∃ W3, W2.alloc (.cells #[.int .i64 0, .int .u64 0] 56) = W3 := ⟨_, rfl⟩
  have n3 : W3.heap[W2.heap.size]? = some (.cells #[.int .i64 0, .int .u64 0] 56 (0, 0)) := by rw [← hW3]; exact heap_alloc_new _ _
  have b23 : Below W2.heap.size W2 W3 := by rw [← hW3]; exact (Below.refl _ _).alloc (Nat.le_refl _) _
  have bA3 := below_cat hb (below_cat b12 b23)
  have m3 := (bA3.block _ (blk_lt2 HA.out.1)).trans HA.out.1
  have hlt := HH.out.1.drum.lt
  have hG := hlt G HH.out.1.drum.fG
  have szA := blk_lt2 HA.out.1
  have sz1 : WA.heap.size ≤ W1.heap.size := hb.size
  have H3 := Lib.hid (show DW w W3 F G N M ∧ W3.heap[W.heap.size]? = some (.cells #[.int .i64 0, .int .u64 0] 56 (0, 0)) ∧ W3.heap[W2.heap.size]? = some (.cells #[.int .i64 0, .int .u64 0] 56 (0, 0)) ∧ ¬ F W.heap.size ∧ ¬ F W2.heap.size ∧ G ≠ W.heap.size ∧ G ≠ W2.heap.size ∧ W.heap.size ≠ W2.heap.size ∧ Touch (Only G) W W3 from
    ⟨HH.out.1.on (below_cat HA.out.2 bA3), m3, n3, fun f => by have := hlt _ f; omega, fun f => by have := hlt _ f; omega, by omega, by omega, by omega, Touch.of_below (below_cat HA.out.2 bA3)⟩)
  obtain ⟨Q, hQ⟩ : ∃ Q, W2.heap.size = Q := ⟨_, rfl⟩
  rw [hQ] at H3
  have hQ1 : W1.heap.size + 1 = Q := by rw [← s2]; exact hQ
  have HQWW := Lib.hid (show W.heap.size ≤ Q by have := HA.out.2.size; omega)
  have HQW := Lib.hid (show w.heap.size ≤ Q by have := HH.out.1.below.size; have := HA.out.2.size; omega)
  clear hb b12 b23 bA3 m3 n3 hlt hG szA sz1 PL hWA s2
  go_wp2_with (fail)
  clear hW2 hW3
  go_loopw [21] (fun x wr => GetRelT w W F G N M W.heap.size Q x wr) (fun x _ => 2 - (intOf x).toNat)
  case atStart => exact ⟨0, rfl, Nat.zero_le _, Lib.hid H3.out⟩
  case round =>
    obtain ⟨k, rfl, hk, HR⟩ := hrel
    obtain ⟨r1, r2, r3, r4, r5, r6, r7, r8, r9⟩ := HR.out
    by_cases hlt : k < 2
    · obtain ⟨hcalm, _⟩ := calm_steps HH.out.2.1 HH.out.2.2.1 k (by omega)
      have RD := dread_ok r1 hcalm.tame hcalm.off k (by have := HH.out.2.2.2.1; omega)
      rw [stepsM_now] at RD
      have hst : accH M (k + 1) = updH (accH M k) (headR (bl (M.now.getD k ⟨#[]⟩))) := rfl
      obtain ⟨row, hrow⟩ : ∃ row, M.now.getD k ⟨#[]⟩ = row := ⟨_, rfl⟩
      rw [hrow] at RD hst
      obtain ⟨x, hx⟩ : ∃ x, headR (bl row) = x := ⟨_, rfl⟩
      have hxg := headR_gen (bl row)
      rw [hx] at hst hxg
      have HRD := Lib.hid RD
      have HXX := Lib.hid (And.intro hx hst)
      obtain ⟨acc, hacc⟩ : ∃ acc, accH M k = acc := ⟨_, rfl⟩
      have HAC := Lib.hid hacc
      clear r1 r2 r3 r4 r5 r6 r7 r8 r9 RD hcalm hst hrow hx hacc
      go_wp2_with (fail)
      refine HRD.out.mono ?_
      rintro e W4 ⟨g4, rfl, d4, o4, z4, nf4, t4⟩
      have m4 := (t4.block W.heap.size (blk_lt2 HR.out.2.1) (fun e => HR.out.2.2.2.2.2.1 e.symm)).trans HR.out.2.1
      have q4 := (t4.block Q (blk_lt2 HR.out.2.2.1) (fun e => HR.out.2.2.2.2.2.2.1 e.symm)).trans HR.out.2.2.1
      rw [HAC.out] at q4
      have TH := takehead_any (some ⟨g4, 0, none⟩) row 64 64 W4 z4 (Nat.le_refl _) o4.holds
      rw [HXX.out.1] at TH
      have T4 := Lib.hid TH
      have H4 := Lib.hid (And.intro d4 (And.intro m4 q4))
      have T4T := Lib.hid (HR.out.2.2.2.2.2.2.2.2.trans t4 (fun j hj => .inl hj))
      clear d4 o4 z4 nf4 t4 m4 q4 TH HRD
      go_wp2_with (fail)
      refine T4.out.mono ?_
      rintro e W5 ⟨rfl, hb⟩
      obtain ⟨W6, hW6⟩ : ∃ W6, W5.alloc (.cells #[.int .i64 (x.1 : Int), .int .u64 (x.2.1 : Int)] 56) = W6 := ⟨_, rfl⟩
      have n6 : W6.heap[W5.heap.size]? = some (.cells #[.int .i64 (x.1 : Int), .int .u64 (x.2.1 : Int)] 56 (0, 0)) := by rw [← hW6]; exact heap_alloc_new _ _
      have b56 : Below W5.heap.size W5 W6 := by rw [← hW6]; exact (Below.refl _ _).alloc (Nat.le_refl _) _
      have b46 := below_cat hb b56
      have d6 := H4.out.1.on b46
      have m6 := (b46.block _ (blk_lt2 H4.out.2.1)).trans H4.out.2.1
      have q6 := (b46.block _ (blk_lt2 H4.out.2.2)).trans H4.out.2.2
      have x0 : W6.cell? ⟨W5.heap.size, 0, none⟩ = some (.int .i64 (x.1 : Int)) := by rw [cell_of_row _ _ _ _ _ _ n6]; rfl
      have x1 : W6.cell? ⟨W5.heap.size, 1, none⟩ = some (.int .u64 (x.2.1 : Int)) := by rw [cell_of_row _ _ _ _ _ _ n6]; rfl
      have a0 : W6.cell? ⟨Q, 0, none⟩ = some (.int .i64 (acc.1 : Int)) := by rw [cell_of_row _ _ _ _ _ _ q6]; rfl
      have a1 : W6.cell? ⟨Q, 1, none⟩ = some (.int .u64 (acc.2 : Int)) := by rw [cell_of_row _ _ _ _ _ _ q6]; rfl
      have f0 : W6.frozen? ⟨Q, 0, none⟩ = false := frozen_of_row _ _ _ _ _ q6
      have f1 : W6.frozen? ⟨Q, 1, none⟩ = false := frozen_of_row _ _ _ _ _ q6
      have H6 := Lib.hid (And.intro d6 (And.intro m6 q6))
      have T6T := Lib.hid (T4T.out.trans (Touch.of_below (F := Only G) b46) (fun j hj => .inl hj))
      clear hb n6 b56 b46 d6 m6 q6 T4
      by_cases he : x.2.2 = 0
      · have te : ((x.2.2 : Int) == 0) = true := by rw [beq_iff_eq]; omega
        by_cases hg : acc.1 < x.1
        · have tg : (acc.1 : Int) < (x.1 : Int) := by omega
          have hup : accH M (k + 1) = (x.1, x.2.1) := by rw [HXX.out.2, HAC.out]; unfold updH; rw [if_pos ⟨he, hg⟩]
          have HU := Lib.hid hup
          clear he hg hup
          go_wp2_with (fail)
          go_roundw
          case rel =>
            have hne6 : W.heap.size ≠ Q := HR.out.2.2.2.2.2.2.2.1
            refine ⟨k + 1, by go_num, by omega, Lib.hid ⟨?_, ?_, ?_, HR.out.2.2.2.1, HR.out.2.2.2.2.1, HR.out.2.2.2.2.2.1, HR.out.2.2.2.2.2.2.1, hne6, ?_⟩⟩
            · refine ⟨?_, (H6.out.1.below.setCell HQW.out _).setCell HQW.out _, H6.out.1.since⟩
              refine H6.out.1.drum.kept (fun j hj => ?_) (by show _ ≤ ((W6.setCell _ _).setCell _ _).heap.size; rw [set_size, set_size]; exact Nat.le_refl _)
              have hjQ : j ≠ Q := fun e => HR.out.2.2.2.2.1 (e ▸ hj)
              exact (set_other j hjQ).trans (set_other j hjQ)
            · exact ((set_other _ hne6).trans (set_other _ hne6)).trans H6.out.2.1
            · rw [HU.out]
              exact u_row (k := 1) (.int .u64 (x.2.1 : Int)) (u_row (k := 0) (.int .i64 (x.1 : Int)) H6.out.2.2)
            · exact T6T.out.trans (((Touch.refl (Only Q) W6).set1 _).set1 _) (fun j hj => .inr ⟨by have e : j = Q := hj; have := HQWW.out; omega, by have e : j = Q := hj; rw [e]; exact blk_lt2 H6.out.2.2⟩)
          case measure => simp [intOf]; omega
        · have tg : ¬ (acc.1 : Int) < (x.1 : Int) := by omega
          have hup : accH M (k + 1) = acc := by rw [HXX.out.2, HAC.out]; unfold updH; rw [if_neg (fun h => hg h.2)]
          have HU := Lib.hid hup
          clear he hg hup
          go_wp2_with (fail)
          go_roundw
          case rel => exact ⟨k + 1, by go_num, by omega, Lib.hid ⟨H6.out.1, H6.out.2.1, by rw [HU.out]; exact H6.out.2.2, HR.out.2.2.2.1, HR.out.2.2.2.2.1, HR.out.2.2.2.2.2.1, HR.out.2.2.2.2.2.2.1, HR.out.2.2.2.2.2.2.2.1, T6T.out⟩⟩
          case measure => simp [intOf]; omega
      · have te : ((x.2.2 : Int) == 0) = false := by rw [beq_eq_false_iff_ne]; omega
        have hup : accH M (k + 1) = acc := by rw [HXX.out.2, HAC.out]; unfold updH; rw [if_neg (fun h => he h.1)]
        have HU := Lib.hid hup
        clear he hup
        go_wp2_with (fail)
        go_roundw
        case rel => exact ⟨k + 1, by go_num, by omega, Lib.hid ⟨H6.out.1, H6.out.2.1, by rw [HU.out]; exact H6.out.2.2, HR.out.2.2.2.1, HR.out.2.2.2.2.1, HR.out.2.2.2.2.2.1, HR.out.2.2.2.2.2.2.1, HR.out.2.2.2.2.2.2.2.1, T6T.out⟩⟩
        case measure => simp [intOf]; omega
    · obtain rfl : k = 2 := by omega
      have x0 : wr.cell? ⟨Q, 0, none⟩ = some (.int .i64 ((accH M 2).1 : Int)) := by rw [cell_of_row _ _ _ _ _ _ r3]; rfl
      have x1 : wr.cell? ⟨Q, 1, none⟩ = some (.int .u64 ((accH M 2).2 : Int)) := by rw [cell_of_row _ _ _ _ _ _ r3]; rfl
      have a0 : wr.cell? ⟨W.heap.size, 0, none⟩ = some (.int .i64 0) := by rw [cell_of_row _ _ _ _ _ _ r2]; rfl
      have a1 : wr.cell? ⟨W.heap.size, 1, none⟩ = some (.int .u64 0) := by rw [cell_of_row _ _ _ _ _ _ r2]; rfl
      have f0 : wr.frozen? ⟨W.heap.size, 0, none⟩ = false := frozen_of_row _ _ _ _ _ r2
      have f1 : wr.frozen? ⟨W.heap.size, 1, none⟩ = false := frozen_of_row _ _ _ _ _ r2
      have HFIN := Lib.hid (fin_set r1 r9 r4 (blk_lt2 r2) HH.out.1.below.size)
      clear r1 r2 r3 r4 r5 r6 r7 r8 r9
      by_cases hz : (accH M 2).1 = 0
      · have hX : GetPostT w W F G N M = fun e W' => e = .returned (.tuple #[.agg #[.int .i64 0, .int .u64 0], .int .i64 11]) ∧ DW w W' F G N (stepsM M 2) ∧ Touch (Only G) W W' := by
          unfold GetPostT; rw [if_pos hz]
        have HX2 := Lib.hid (HX.out.symm.trans hX)
        have tz : (((accH M 2).1 : Int) == 0) = true := by rw [beq_iff_eq]; omega
        clear hz hX
        go_wp2_with (fail)
        rw [HX2.out]
        (try simp only [Exit.inBlock, Exit.then])
        refine bodyPost_ret (v := .tuple #[.agg #[.int .i64 0, .int .u64 0], .int .i64 11]) ?_ rfl ⟨rfl, ?_⟩
        · rw [results_cell_tmp rfl]
          go_simp
        · first | exact HFIN.out _ (.inl rfl) | exact HFIN.out _ (.inr ⟨_, _, rfl⟩)
      · have hX : GetPostT w W F G N M = fun e W' => e = .returned (.tuple #[.agg #[.int .i64 ((accH M 2).1 : Int), .int .u64 ((accH M 2).2 : Int)], .int .i64 0]) ∧ DW w W' F G N (stepsM M 2) ∧ Touch (Only G) W W' := by
          unfold GetPostT; rw [if_neg hz]
        have HX2 := Lib.hid (HX.out.symm.trans hX)
        have tz : (((accH M 2).1 : Int) == 0) = false := by rw [beq_eq_false_iff_ne]; omega
        clear hz hX
        go_wp2_with (fail)
        rw [HX2.out]
        (try simp only [Exit.inBlock, Exit.then])
        refine bodyPost_ret (v := .tuple #[.agg #[.int .i64 ((accH M 2).1 : Int), .int .u64 ((accH M 2).2 : Int)], .int .i64 0]) ?_ rfl ⟨rfl, ?_⟩
        · rw [results_cell_tmp rfl]
          go_simp
        · first | exact HFIN.out _ (.inl rfl) | exact HFIN.out _ (.inr ⟨_, _, rfl⟩)
set_option maxRecDepth 100000 in
set_option maxHeartbeats 4000000 in
theorem puthead_none {W : World} {F : Nat → Prop} {G N : Nat} {M : DM} (h : Drum W F G N M) (h1 : N < 64) (a b : Int) :
    Calls Try.prog 16 #[.pointer (some ⟨G, 0, none⟩), .agg #[.int .i64 a, .int .u64 b]] W fun e W' => e = .returned (.int .i64 1) ∧ Below W.heap.size W W' := by
  have bA : Below W.heap.size W (W.alloc (.cells #[.int .i64 a, .int .u64 b] 56)) := (Below.refl _ _).alloc (Nat.le_refl _) _
  have PL := Lib.hid (plan_no (h.below bA) h1)
  have HA := Lib.hid bA
  clear bA h h1
  go_enter Try.func16, Try.ntmps16
  go_wp2_with (fail)
  refine PL.out.mono ?_
  rintro e W1 ⟨rfl, hb⟩
  have HB := Lib.hid (below_cat HA.out hb)
  clear hb PL
  go_wp2_with (fail)
  go_ret
  exact ⟨rfl, HB.out.alloc HB.out.size _⟩
set_option maxRecDepth 100000 in
set_option maxHeartbeats 4000000 in
theorem puthead_arg {W : World} {F : Nat → Prop} {G N : Nat} {M : DM} (h : Drum W F G N M) (h1 : 64 ≤ N) (h2 : N ≤ 16384) (a b : Int) (ha : a < 1 ∨ 4294967295 < a) :
    Calls Try.prog 16 #[.pointer (some ⟨G, 0, none⟩), .agg #[.int .i64 a, .int .u64 b]] W fun e W' => e = .returned (.int .i64 1) ∧ Below W.heap.size W W' := by
  obtain ⟨WA, hWA⟩ : ∃ WA, W.alloc (.cells #[.int .i64 a, .int .u64 b] 56) = WA := ⟨_, rfl⟩
  have nA : WA.heap[W.heap.size]? = some (.cells #[.int .i64 a, .int .u64 b] 56 (0, 0)) := by rw [← hWA]; exact heap_alloc_new _ _
  have bA : Below W.heap.size W WA := by rw [← hWA]; exact (Below.refl _ _).alloc (Nat.le_refl _) _
  have PL := Lib.hid (plan_ok (h.below bA) h1 h2)
  have LH := Lib.hid (fun w => layhead_arg a b ha w)
  have HA := Lib.hid (And.intro nA bA)
  clear nA bA h h1 h2 ha
  unfold planV at PL
  generalize N / 4 = L at *
  generalize 2 + L = B at *
  generalize (N - B) / 8 = P at *
  go_enter Try.func16, Try.ntmps16
  go_wp2_with (fail)
  refine PL.out.mono ?_
  rintro e W1 ⟨rfl, hb⟩
  obtain ⟨W2, hW2⟩ : ∃ W2, W1.alloc (.cells #[.int .i64 (L : Int), .int .i64 (B : Int), .int .i64 (P : Int)] 89) = W2 := ⟨_, rfl⟩
  have b12 : Below W1.heap.size W1 W2 := by rw [← hW2]; exact (Below.refl _ _).alloc (Nat.le_refl _) _
  have n2 := ((below_cat hb b12).block _ (blk_lt2 HA.out.1)).trans HA.out.1
  have d0 : W2.cell? ⟨W.heap.size, 0, none⟩ = some (.int .i64 a) := by rw [cell_of_row _ _ _ _ _ _ n2]; rfl
  have d1 : W2.cell? ⟨W.heap.size, 1, none⟩ = some (.int .u64 b) := by rw [cell_of_row _ _ _ _ _ _ n2]; rfl
  have H2 := Lib.hid (below_cat HA.out.2 (below_cat hb b12))
  clear hb b12 n2 PL hWA
  go_wp2_with (fail)
  clear hW2 d0 d1
  refine (LH.out _).mono ?_
  rintro e W3 ⟨rfl, hb3⟩
  have HB := Lib.hid (below_cat H2.out hb3)
  clear hb3
  go_wp2_with (fail)
  go_ret
  exact ⟨rfl, HB.out⟩
/-- What PutHead answers, and the long row behind it. -/
def headE (ok : Bool) (n : Int) : Nat := if ok = true then (if outH n then 1 else 0) else 1
def headRow (L : List UInt8) (ok : Bool) (n : Int) (st : Nat) : List UInt8 := if headE ok n = 0 then spliceL L (64 * (n.toNat % 2)) (headL n.toNat st) else L
theorem puthead_any {w W : World} {F : Nat → Prop} {G N bs pg b : Nat} {ok : Bool} {L : List UInt8} {M : DM} (h : Seen w W F G N b L M) (hl : Lies N bs pg ok) (hb : b ≤ 900000) (n : Int) (st : Nat) (hst : st < 18446744073709551616) :
    Calls Try.prog 16 #[.pointer (some ⟨G, 0, none⟩), .agg #[.int .i64 n, .int .u64 (st : Int)]] W fun e W' => e = .returned (.int .i64 (headE ok n : Int)) ∧ ∃ F' M', Seen w W' F' G N (b + 8) (headRow L ok n st) M' ∧ Went F F' W W' := by
  unfold headRow headE
  cases ok with
  | false =>
    rw [if_neg (by simp), if_neg (by decide)]
    exact (puthead_none h.d.drum (hl.no rfl).1 n st).mono fun e W' ⟨e1, e2⟩ => ⟨e1, F, M, h.on e2 (by omega), Went.of_below e2⟩
  | true =>
    obtain ⟨h1, _, _⟩ := hl.yes rfl
    have h2 : N ≤ 16384 := by have := hl.top; omega
    rw [if_pos rfl]
    by_cases ho : outH n
    · rw [if_pos ho, if_neg (by decide)]
      exact (puthead_arg h.d.drum h1 h2 n st ho).mono fun e W' ⟨e1, e2⟩ => ⟨e1, F, M, h.on e2 (by omega), Went.of_below e2⟩
    · rw [if_neg ho, if_pos rfl]
      obtain ⟨k, rfl⟩ : ∃ k : Nat, n = (k : Int) := ⟨n.toNat, by unfold outH at ho; omega⟩
      rw [Int.toNat_natCast]
      have hz1 := h.steps
      have hz2 := h.loose
      obtain ⟨c, e1, e2⟩ := h.calm.written (k % 2) (headB k st) (by omega) (by omega)
      refine (puthead_went h.d h.calm.tame h.calm.off h1 h2 k st (by unfold outH at ho; omega) (by unfold outH at ho; omega) hst).mono fun e W' ⟨e3, F', e4, e5⟩ => ⟨e3, F', _, ⟨e4, c, by omega, by omega, ?_⟩, e5⟩
      rw [write_nowL h.calm.off h.d.drum.ok (by omega) (headB_size k st), h.row, headB_bl]
set_option maxRecDepth 100000 in
set_option maxHeartbeats 4000000 in
theorem gethead_none {W : World} {F : Nat → Prop} {G N : Nat} {M : DM} (h : Drum W F G N M) (h1 : N < 64) :
    Calls Try.prog 18 #[.pointer (some ⟨G, 0, none⟩)] W fun e W' => e = .returned (.tuple #[.agg #[.int .i64 0, .int .u64 0], .int .i64 1]) ∧ Below W.heap.size W W' := by
  obtain ⟨WA, hWA⟩ : ∃ WA, W.alloc (.cells #[.int .i64 0, .int .u64 0] 56) = WA := ⟨_, rfl⟩
  have nA : WA.heap[W.heap.size]? = some (.cells #[.int .i64 0, .int .u64 0] 56 (0, 0)) := by rw [← hWA]; exact heap_alloc_new _ _
  have bA : Below W.heap.size W WA := by rw [← hWA]; exact (Below.refl _ _).alloc (Nat.le_refl _) _
  have PL := Lib.hid (plan_no (h.below bA) h1)
  have HA := Lib.hid (And.intro nA bA)
  clear nA bA h h1
  go_enter Try.func18, Try.ntmps18
  go_wp2_with (fail)
  refine PL.out.mono ?_
  rintro e W1 ⟨rfl, hb⟩
  have n1 := (hb.block _ (blk_lt2 HA.out.1)).trans HA.out.1
  have b12 : Below W1.heap.size W1 (W1.alloc (.cells #[.int .i64 0, .int .i64 0, .int .i64 0] 89)) := (Below.refl _ _).alloc (Nat.le_refl _) _
  have n2 := (b12.block _ (blk_lt2 n1)).trans n1
  have d0 : (W1.alloc (.cells #[.int .i64 0, .int .i64 0, .int .i64 0] 89)).cell? ⟨W.heap.size, 0, none⟩ = some (.int .i64 0) := by rw [cell_of_row _ _ _ _ _ _ n2]; rfl
  have d1 : (W1.alloc (.cells #[.int .i64 0, .int .i64 0, .int .i64 0] 89)).cell? ⟨W.heap.size, 1, none⟩ = some (.int .u64 0) := by rw [cell_of_row _ _ _ _ _ _ n2]; rfl
  have f0 : (W1.alloc (.cells #[.int .i64 0, .int .i64 0, .int .i64 0] 89)).frozen? ⟨W.heap.size, 0, none⟩ = false := frozen_of_row _ _ _ _ _ n2
  have f1 : (W1.alloc (.cells #[.int .i64 0, .int .i64 0, .int .i64 0] 89)).frozen? ⟨W.heap.size, 1, none⟩ = false := frozen_of_row _ _ _ _ _ n2
  have B2 := Lib.hid (below_cat HA.out.2 (below_cat hb b12))
  clear hb n1 b12 n2 PL hWA
  go_wp2_with (fail)
  (try simp only [Exit.inBlock, Exit.then])
  refine bodyPost_ret (v := .tuple #[.agg #[.int .i64 0, .int .u64 0], .int .i64 1]) ?_ rfl ⟨rfl, ?_⟩
  · rw [results_cell_tmp rfl]
    go_simp
  · first | exact B2.out | exact (B2.out.setCell (Nat.le_refl _) _).setCell (Nat.le_refl _) _
/-- The newest of two heads on a long row. -/
def newest (L : List UInt8) : Nat → Nat × Nat
  | 0 => (0, 0)
  | k + 1 => updH (newest L k) (headR ((L.drop (64 * k)).take 64))
theorem acc_newest {M : DM} {N : Nat} (hok : M.Ok N) (h : 2 ≤ N) : ∀ k, k ≤ 2 → accH M k = newest (nowL M) k
  | 0, _ => rfl
  | k + 1, hk => by
    rw [accH, newest, acc_newest hok h k (by omega), now_sector hok (by omega)]
/-- What GetHead tells. -/
def headG (L : List UInt8) (ok : Bool) : (Nat × Nat) × Nat := if ok = true then (if (newest L 2).1 = 0 then ((0, 0), 11) else (newest L 2, 0)) else ((0, 0), 1)
theorem gethead_any {w W : World} {F : Nat → Prop} {G N bs pg b : Nat} {ok : Bool} {L : List UInt8} {M : DM} (h : Seen w W F G N b L M) (hl : Lies N bs pg ok) (hb : b ≤ 900000) :
    Calls Try.prog 18 #[.pointer (some ⟨G, 0, none⟩)] W fun e W' => e = .returned (.tuple #[.agg #[.int .i64 ((headG L ok).1.1 : Int), .int .u64 ((headG L ok).1.2 : Int)], .int .i64 ((headG L ok).2 : Int)]) ∧ ∃ M', Seen w W' F G N (b + 8) L M' ∧ Went F F W W' := by
  unfold headG
  cases ok with
  | false =>
    rw [if_neg (by simp)]
    exact (gethead_none h.d.drum (hl.no rfl).1).mono fun e W' ⟨e1, e2⟩ => ⟨e1, M, h.on e2 (by omega), Went.of_below e2⟩
  | true =>
    obtain ⟨h1, _, _⟩ := hl.yes rfl
    have hz1 := h.steps
    have hz2 := h.loose
    rw [if_pos rfl]
    refine (gethead_went h.d h.calm (by omega) h1 (by have := hl.top; omega)).mono fun e W' ⟨e1, e2, e3⟩ => ⟨?_, _, ⟨e2, ?_, ?_, ?_, ?_⟩, ⟨e3.mono (only_F h.d.drum.fG), fun _ hk => .inl hk⟩⟩
    · rw [e1, acc_newest h.d.drum.ok (by omega) 2 (Nat.le_refl _), h.row]
      by_cases hq : (newest L 2).1 = 0
      · rw [if_pos hq, if_pos hq]; rfl
      · rw [if_neg hq, if_neg hq]; rfl
    · exact (calm_stepsN h.calm (by omega) 2 (by omega)).1
    · rw [(calm_stepsN h.calm (by omega) 2 (by omega)).2.1]; omega
    · rw [(calm_stepsN h.calm (by omega) 2 (by omega)).2.2]; omega
    · unfold nowL; rw [stepsM_now]; exact h.row
end Go.Proofs.Ytlkffignbjpfcaa
