/- Proved here: what Append of no bytes does to a tape with room. -/
import Derived.Test.YtggchfmglaijgaaTapeRest
namespace Go.Proofs.Ytggchfmglaijgaa
open Go.RowKit

def oneM (M : DM) (lo used gen groups : Nat) : Nat → DM
  | 0 => M
  | _ + 1 => M.write (lo + used) (ofL (sectorL gen used groups 0 []))
def NoneRel (w W : World) (G N t lo hi gen groups used : Nat) (M : DM) (x : Value) (wr : World) : Prop :=
  ∃ k : Nat, x = .int .i64 (k : Int) ∧ k ≤ 1 ∧ Hid (∃ F, DW w wr F G N (oneM M lo used gen groups k) ∧ wr.heap[t]? = some (.cells (tapeV G lo hi gen groups used false) 118 (0, 0)) ∧ ¬ F t ∧ t < W.heap.size ∧ W.heap.size ≤ wr.heap.size)
set_option maxRecDepth 100000 in
set_option maxHeartbeats 8000000 in
theorem append_none {w W : World} {F : Nat → Prop} {G N : Nat} {M : DM} (h : DW w W F G N M) (hc : Still M) (hm1 : M.steps ≤ 1000000) (hm2 : M.loose.length ≤ 1000000) (t lo hi gen groups used : Nat) (ht : W.heap[t]? = some (.cells (tapeV G lo hi gen groups used false) 118 (0, 0))) (hft : ¬ F t) (hwt : w.heap.size ≤ t)
    (hhi : hi ≤ N) (hN : N ≤ 16384) (hgen : gen ≤ 4294967295) (hgr : groups ≤ 1000000) (hroom : lo + used + 1 ≤ hi) :
    Calls Try.prog 33 #[.pointer (some ⟨t, 0, none⟩), .slice none 0 0] W fun e W' => e = .returned (.int .i64 0) ∧ ∃ F', DW w W' F' G N (oneM M lo used gen groups 1) ∧ W'.heap[t]? = some (.cells (tapeV G lo hi gen (groups + 1) (used + 1) false) 118 (0, 0)) ∧ ¬ F' t := by
  have SO : Calls Try.prog 65 #[.int .i64 0] W fun e w' => e = .returned (.int .i64 1) ∧ W = w' := sectorsOf_any 0 (by decide) W
  have HSO := Lib.hid SO
  clear SO
  have FR := Lib.hid (free_any W t G lo hi gen groups used false ht (by omega) (by omega))
  have c6 : W.cell? ⟨t, 6, none⟩ = some (.bool false) := by rw [cell_of_row _ _ _ _ _ _ ht]; rfl
  have hroomN : ¬ hi - lo - used < 1 := by omega
  have hroomM : ¬ hi - lo - used = 0 := by omega
  have HH := Lib.hid (And.intro h (And.intro hc (And.intro hm1 (And.intro hm2 (And.intro ht (And.intro hft (And.intro hwt (And.intro hhi (And.intro hN (And.intro hgen (And.intro hgr hroom)))))))))))
  clear h hc hm1 hm2 ht hft hwt hhi hN hgen hgr hroom
  go_enter Try.func33, Try.ntmps33
  go_wp2_with (fail)
  refine HSO.out.mono ?_
  rintro e W' ⟨rfl, rfl⟩
  go_wp2_with (fail)
  refine FR.out.mono ?_
  rintro e W1 ⟨rfl, m, rfl⟩
  go_wp2_with (fail)
  all_goals try (exfalso; omega; done)
  clear c6
  go_loopw [26] (fun x wr => NoneRel w W G N t lo hi gen groups used M x wr) (fun x _ => 1 - (intOf x).toNat)
  case atStart =>
    exact ⟨0, rfl, Nat.zero_le _, Lib.hid ⟨F, HH.out.1.on (below_drewN (Below.refl _ _) m), HH.out.2.2.2.2.1, HH.out.2.2.2.2.2.1, obj_lt HH.out.2.2.2.2.1, Nat.le_refl _⟩⟩
  case round =>
    obtain ⟨k, rfl, hk, HR⟩ := hrel
    obtain ⟨Fk, r1, r2, r3, r6, r7⟩ := HR.out
    by_cases hlt : k < 1
    · obtain rfl : k = 0 := by omega
      have q1 : (used : Int) ≤ 16384 := by have := HH.out.2.2.2.2.2.2.2.1; have := HH.out.2.2.2.2.2.2.2.2.1; have := HH.out.2.2.2.2.2.2.2.2.2.2.2; omega
      have q3 : (lo : Int) ≤ 16384 := by have := HH.out.2.2.2.2.2.2.2.1; have := HH.out.2.2.2.2.2.2.2.2.1; have := HH.out.2.2.2.2.2.2.2.2.2.2.2; omega
      have q4 : (0 : Int) ≤ (used : Int) := by omega
      have q5 : (0 : Int) ≤ (lo : Int) := by omega
      have w1 : IntKind.i64.wrap (used : Int) = (used : Int) := by rw [IntKind.wrap_i64]; omega
      have w4 : IntKind.i64.wrap ((lo : Int) + (used : Int)) = (lo : Int) + (used : Int) := by rw [IntKind.wrap_i64]; omega
      have hu3 : ((lo + used : Nat) : Int) = (lo : Int) + (used : Int) := by omega
      have HB := Lib.hid (show gen < 9223372036854775808 ∧ used < 9223372036854775808 ∧ groups < 9223372036854775808 ∧ 0 < 9223372036854775808 from ⟨by have := HH.out.2.2.2.2.2.2.2.2.2.1; omega, by omega, by have := HH.out.2.2.2.2.2.2.2.2.2.2.1; omega, by omega⟩)
      have SX : ∀ V, Below wr.heap.size wr V → V.cell? ⟨t, 3, none⟩ = some (.int .i64 (gen : Int)) ∧ V.cell? ⟨t, 5, none⟩ = some (.int .i64 (used : Int)) ∧ V.cell? ⟨t, 4, none⟩ = some (.int .i64 (groups : Int)) := fun V hb => by
        have h2 := (hb.block _ (obj_lt r2)).trans r2
        exact ⟨by rw [cell_of_row _ _ _ _ _ _ h2]; rfl, by rw [cell_of_row _ _ _ _ _ _ h2]; rfl, by rw [cell_of_row _ _ _ _ _ _ h2]; rfl⟩
      have HSX := Lib.hid (And.intro (SX wr (Below.refl _ _)) SX)
      obtain ⟨hz, hzs⟩ := zero_of_info infoSec
      have HZS := Lib.hid hzs
      have r1' : DW w wr Fk G N M := r1
      have HRF := Lib.hid (And.intro r1' (And.intro r2 (And.intro r3 (And.intro r6 r7))))
      clear r1 r1' r2 r3 r6 r7 SX hzs
      go_wp2_with (fail)
      all_goals try (exfalso; omega; done)
      refine wp_region_held_drew (S := fun W => W.cell? ⟨t, 3, none⟩ = some (.int .i64 (gen : Int)) ∧ W.cell? ⟨t, 5, none⟩ = some (.int .i64 (used : Int)) ∧ W.cell? ⟨t, 4, none⟩ = some (.int .i64 (groups : Int))) (by kernel_rfl) HSX.out.1 (fun hHeld => ?_)
      have b0 : Below wr.heap.size wr wr.drew := (Below.refl _ _).drew
      refine wpAnyH_take (i := 0) (oi := _) (v := ?va0) rfl (by kernel_rfl) (by kernel_rfl) (by kernel_rfl) (fun _ _ _ h => h) (Or.inl ⟨by rfl, ?hya0⟩) (by assumption) ?resta0
      case hya0 =>
        intro W hSw
        clear hSw
        go_simp
        try (with_reducible rfl)
      try simp only [Act.put, List.getElem_toArray, List.getElem_cons_zero, List.getElem_cons_succ, List.setIfInBounds_toArray, List.set_cons_zero, List.set_cons_succ]
      refine wpAnyH_take (i := 1) (oi := _) (v := ?va1) rfl (by kernel_rfl) (by kernel_rfl) (by kernel_rfl) (fun _ _ _ h => h) (Or.inl ⟨by rfl, ?hya1⟩) (by assumption) ?resta1
      case hya1 =>
        intro W hSw
        clear hSw
        go_simp
        try (with_reducible rfl)
      try simp only [Act.put, List.getElem_toArray, List.getElem_cons_zero, List.getElem_cons_succ, List.setIfInBounds_toArray, List.set_cons_zero, List.set_cons_succ]
      refine wpAnyH_take (i := 2) (oi := _) (v := ?va2) rfl (by kernel_rfl) (by kernel_rfl) (by kernel_rfl) (fun _ _ _ h => h) (Or.inl ⟨by rfl, ?hya2⟩) (by assumption) ?resta2
      case hya2 =>
        intro W hSw
        clear hSw
        go_simp
        try (with_reducible rfl)
      try simp only [Act.put, List.getElem_toArray, List.getElem_cons_zero, List.getElem_cons_succ, List.setIfInBounds_toArray, List.set_cons_zero, List.set_cons_succ]
      refine wpAnyH_take (i := 3) (oi := _) (v := ?va3) rfl (by kernel_rfl) (by kernel_rfl) (by kernel_rfl) (fun _ _ _ h => h) (Or.inl ⟨by rfl, ?hya3⟩) (by assumption) ?resta3
      case hya3 =>
        intro W hSw
        obtain ⟨e0, e1, e2⟩ := hSw
        go_simp
        try (with_reducible rfl)
      try simp only [Act.put, List.getElem_toArray, List.getElem_cons_zero, List.getElem_cons_succ, List.setIfInBounds_toArray, List.set_cons_zero, List.set_cons_succ]
      refine wpAnyH_take (i := 4) (oi := _) (v := ?va4) rfl (by kernel_rfl) (by kernel_rfl) (by kernel_rfl) (fun _ _ _ h => h) (Or.inl ⟨by rfl, ?hya4⟩) (by assumption) ?resta4
      case hya4 =>
        intro W hSw
        clear hSw
        go_simp
        try (with_reducible rfl)
      try simp only [Act.put, List.getElem_toArray, List.getElem_cons_zero, List.getElem_cons_succ, List.setIfInBounds_toArray, List.set_cons_zero, List.set_cons_succ]
      refine wpAnyH_take (i := 5) (oi := _) (v := ?va5) rfl (by kernel_rfl) (by kernel_rfl) (by kernel_rfl) (fun _ _ _ h => h) (Or.inl ⟨by rfl, ?hya5⟩) (by assumption) ?resta5
      case hya5 =>
        intro W hSw
        clear hSw
        go_simp
        try (with_reducible rfl)
      try simp only [Act.put, List.getElem_toArray, List.getElem_cons_zero, List.getElem_cons_succ, List.setIfInBounds_toArray, List.set_cons_zero, List.set_cons_succ]
      refine wpAnyH_take (i := 6) (oi := _) (v := ?va6) rfl (by kernel_rfl) (by kernel_rfl) (by kernel_rfl) (fun _ _ _ h => h) (Or.inl ⟨by rfl, ?hya6⟩) (by assumption) ?resta6
      case hya6 =>
        intro W hSw
        clear hSw
        go_simp
        try (with_reducible rfl)
      try simp only [Act.put, List.getElem_toArray, List.getElem_cons_zero, List.getElem_cons_succ, List.setIfInBounds_toArray, List.set_cons_zero, List.set_cons_succ]
      refine wpAnyH_take (i := 7) (oi := _) (v := ?va7) rfl (by kernel_rfl) (by kernel_rfl) (by kernel_rfl) (fun _ _ _ h => h) (Or.inl ⟨by rfl, ?hya7⟩) (by assumption) ?resta7
      case hya7 =>
        intro W hSw
        obtain ⟨e0, e1, e2⟩ := hSw
        go_simp
        try (with_reducible rfl)
      try simp only [Act.put, List.getElem_toArray, List.getElem_cons_zero, List.getElem_cons_succ, List.setIfInBounds_toArray, List.set_cons_zero, List.set_cons_succ]
      refine wpAnyH_take (i := 8) (oi := _) (v := ?va8) rfl (by kernel_rfl) (by kernel_rfl) (by kernel_rfl) (fun _ _ _ h => h) (Or.inl ⟨by rfl, ?hya8⟩) (by assumption) ?resta8
      case hya8 =>
        intro W hSw
        clear hSw
        go_simp
        try (with_reducible rfl)
      try simp only [Act.put, List.getElem_toArray, List.getElem_cons_zero, List.getElem_cons_succ, List.setIfInBounds_toArray, List.set_cons_zero, List.set_cons_succ]
      refine wpAnyH_take (i := 9) (oi := _) (v := ?va9) rfl (by kernel_rfl) (by kernel_rfl) (by kernel_rfl) (fun _ _ _ h => h) (Or.inl ⟨by rfl, ?hya9⟩) (by assumption) ?resta9
      case hya9 =>
        intro W hSw
        clear hSw
        go_simp
        try (with_reducible rfl)
      try simp only [Act.put, List.getElem_toArray, List.getElem_cons_zero, List.getElem_cons_succ, List.setIfInBounds_toArray, List.set_cons_zero, List.set_cons_succ]
      refine wpAnyH_take (i := 10) (oi := _) (v := ?va10) rfl (by kernel_rfl) (by kernel_rfl) (by kernel_rfl) (fun _ _ _ h => h) (Or.inl ⟨by rfl, ?hya10⟩) (by assumption) ?resta10
      case hya10 =>
        intro W hSw
        clear hSw
        go_simp
        try (with_reducible rfl)
      try simp only [Act.put, List.getElem_toArray, List.getElem_cons_zero, List.getElem_cons_succ, List.setIfInBounds_toArray, List.set_cons_zero, List.set_cons_succ]
      refine wpAnyH_take (i := 11) (oi := _) (v := ?va11) rfl (by kernel_rfl) (by kernel_rfl) (by kernel_rfl) (fun _ _ _ h => h) (Or.inl ⟨by rfl, ?hya11⟩) (by assumption) ?resta11
      case hya11 =>
        intro W hSw
        clear hSw
        go_simp
        try (with_reducible rfl)
      try simp only [Act.put, List.getElem_toArray, List.getElem_cons_zero, List.getElem_cons_succ, List.setIfInBounds_toArray, List.set_cons_zero, List.set_cons_succ]
      refine wpAnyH_take (i := 12) (oi := _) (v := ?va12) rfl (by kernel_rfl) (by kernel_rfl) (by kernel_rfl) (fun _ _ _ h => h) (Or.inl ⟨by rfl, ?hya12⟩) (by assumption) ?resta12
      case hya12 =>
        intro W hSw
        clear hSw
        go_simp
        try (with_reducible rfl)
      try simp only [Act.put, List.getElem_toArray, List.getElem_cons_zero, List.getElem_cons_succ, List.setIfInBounds_toArray, List.set_cons_zero, List.set_cons_succ]
      refine wpAnyH_take (i := 13) (oi := _) (v := ?va13) rfl (by kernel_rfl) (by kernel_rfl) (by kernel_rfl) (fun _ _ _ h => h) (Or.inl ⟨by rfl, ?hya13⟩) (by assumption) ?resta13
      case hya13 =>
        intro W hSw
        obtain ⟨e0, e1, e2⟩ := hSw
        go_simp
        try (with_reducible rfl)
      try simp only [Act.put, List.getElem_toArray, List.getElem_cons_zero, List.getElem_cons_succ, List.setIfInBounds_toArray, List.set_cons_zero, List.set_cons_succ]
      refine wpAnyH_take (i := 14) (oi := _) (v := ?va14) rfl (by kernel_rfl) (by kernel_rfl) (by kernel_rfl) (fun _ _ _ h => h) (Or.inl ⟨by rfl, ?hya14⟩) (by assumption) ?resta14
      case hya14 =>
        intro W hSw
        clear hSw
        go_simp
        try (with_reducible rfl)
      try simp only [Act.put, List.getElem_toArray, List.getElem_cons_zero, List.getElem_cons_succ, List.setIfInBounds_toArray, List.set_cons_zero, List.set_cons_succ]
      refine wpAnyH_take (i := 15) (oi := _) (v := ?va15) rfl (by kernel_rfl) (by kernel_rfl) (by kernel_rfl) (fun _ _ _ h => h) (Or.inl ⟨by rfl, ?hya15⟩) (by assumption) ?resta15
      case hya15 =>
        intro W hSw
        clear hSw
        go_simp
        try (with_reducible rfl)
      try simp only [Act.put, List.getElem_toArray, List.getElem_cons_zero, List.getElem_cons_succ, List.setIfInBounds_toArray, List.set_cons_zero, List.set_cons_succ]
      refine wpAnyH_take (i := 16) (oi := _) (v := ?va16) rfl (by kernel_rfl) (by kernel_rfl) (by kernel_rfl) (fun _ _ _ h => h) (Or.inl ⟨by rfl, ?hya16⟩) (by assumption) ?resta16
      case hya16 =>
        intro W hSw
        clear hSw
        go_simp
        try (with_reducible rfl)
      try simp only [Act.put, List.getElem_toArray, List.getElem_cons_zero, List.getElem_cons_succ, List.setIfInBounds_toArray, List.set_cons_zero, List.set_cons_succ]
      refine wpAnyH_take (i := 17) (oi := _) (v := ?va17) rfl (by kernel_rfl) (by kernel_rfl) (by kernel_rfl) (fun _ _ _ h => h) (Or.inl ⟨by rfl, ?hya17⟩) (by assumption) ?resta17
      case hya17 =>
        intro W hSw
        clear hSw
        go_simp
        try (with_reducible rfl)
      try simp only [Act.put, List.getElem_toArray, List.getElem_cons_zero, List.getElem_cons_succ, List.setIfInBounds_toArray, List.set_cons_zero, List.set_cons_succ]
      refine wpAnyH_take (i := 18) (oi := _) (v := ?va18) rfl (by kernel_rfl) (by kernel_rfl) (by kernel_rfl) (fun _ _ _ h => h) (Or.inl ⟨by rfl, ?hya18⟩) (by assumption) ?resta18
      case hya18 =>
        intro W hSw
        clear hSw
        go_simp
        try (with_reducible rfl)
      try simp only [Act.put, List.getElem_toArray, List.getElem_cons_zero, List.getElem_cons_succ, List.setIfInBounds_toArray, List.set_cons_zero, List.set_cons_succ]
      refine wpAnyH_take (i := 19) (oi := _) (v := ?va19) rfl (by kernel_rfl) (by kernel_rfl) (by kernel_rfl) (fun _ _ _ h => h) (Or.inl ⟨by rfl, ?hya19⟩) (by assumption) ?resta19
      case hya19 =>
        intro W hSw
        clear hSw
        go_simp
        try (with_reducible rfl)
      try simp only [Act.put, List.getElem_toArray, List.getElem_cons_zero, List.getElem_cons_succ, List.setIfInBounds_toArray, List.set_cons_zero, List.set_cons_succ]
      obtain ⟨X0, hX0⟩ : ∃ X, X = wr.drew := ⟨_, rfl⟩
      rw [← hX0] at b0 hHeld ⊢
      clear hX0
      refine wpAnyH_ready (rs := [20, 21]) (by kernel_rfl) (by simp) ?_
      refine AllReadyH.cons (o := _) rfl (fun K hK => ?_) (AllReadyH.cons (o := _) rfl (fun K hK => ?_) AllReadyH.nil)
      · go_simp
        go_at_call 66
        have LY := tlay_ok gen used groups 0 HB.out.1 HB.out.2.1 HB.out.2.2.1 HB.out.2.2.2 none ⟨#[]⟩ 0 0 rfl (by decide) (fun _ => rfl) X0 (fun h0 => absurd h0 (by decide))
        refine LY.mono ?_
        rintro e X1 ⟨rfl, hb2⟩
        clear LY
        have b1 := below_cat b0 hb2
        refine hK.out _ _ (HSX.out.2 _ b1) (fun hHeld1 => ?_)
        clear hK K
        try simp only [Act.put, List.getElem_toArray, List.getElem_cons_zero, List.getElem_cons_succ, List.setIfInBounds_toArray, List.set_cons_zero, List.set_cons_succ]
        refine wpAnyH_ready (rs := [21]) (by kernel_rfl) (by simp) ?_
        refine AllReadyH.cons (o := _) rfl (fun K hK => ?_) AllReadyH.nil
        go_simp
        have b2 := b1.alloc b1.size (.cells zSec 120)
        have n2 : (X1.alloc (.cells zSec 120)).heap[X1.heap.size]? = some (.cells zSec 120 (0, 0)) := heap_alloc_new _ _
        have ha : wr.heap.size ≤ X1.heap.size := b1.size
        obtain ⟨A, hA⟩ : ∃ A, X1.heap.size = A := ⟨_, rfl⟩
        rw [hA] at n2 ha
        try rw [hA]
        obtain ⟨X2, hX2⟩ : ∃ X2, X1.alloc (.cells zSec 120) = X2 := ⟨_, rfl⟩
        rw [hX2] at n2 b2
        try rw [hX2]
        refine hK.out _ _ (HSX.out.2 _ b2) (fun hHeld2 => ?_)
        clear hK K hX2 hA hb2
        try simp only [Act.put, List.getElem_toArray, List.getElem_cons_zero, List.getElem_cons_succ, List.setIfInBounds_toArray, List.set_cons_zero, List.set_cons_succ]
        refine wpAnyH_ready (rs := [22]) (by kernel_rfl) (by simp) ?_
        refine AllReadyH.cons (o := _) rfl (fun K hK => ?_) AllReadyH.nil
        obtain ⟨SL, hSL⟩ : ∃ SL, sectorL gen used groups 0 (bl ⟨#[]⟩) = SL := ⟨_, rfl⟩
        rw [hSL]
        have hl64 : SL.length = 64 := by rw [← hSL]; exact sectorL_length _ _ _ _ _ (by decide)
        have hsz : (bytesV (ofL SL)).toArray.size = 64 := by rw [List.size_toArray, bytesV_length, ofL_size, hl64]
        have hi9 : (Try.prog.info? 120).map (·.size) = some (bytesV (ofL SL)).toArray.size := by rw [hsz]; exact info64
        have hone : (bytesV (ofL SL)).toArray.all (·.oneCell') = true := by
          rw [List.all_toArray, List.all_eq_true]
          exact bytesV_one _
        refine step_is rfl (wp_store_row 120 _ _ rfl A (bytesV (ofL SL)).toArray (by rfl) (by rfl) 120 zSec n2 hi9 (by rw [hsz]; rfl) hone ?_)
        have b3 := below_setRow b2 ha (bytesV (ofL SL)).toArray
        have n3 := setRow_heap _ _ _ (bytesV (ofL SL)).toArray _ _ n2
        refine hK.out _ _ (HSX.out.2 _ b3) (fun hHeld3 => ?_)
        clear hK K hHeld hHeld1 hHeld2 hHeld3
        obtain ⟨Z, hZ⟩ : ∃ Z, X2.setRow A (bytesV (ofL SL)).toArray = Z := ⟨_, rfl⟩
        rw [hZ] at b3 n3
        try rw [hZ]
        have HZ := Lib.hid (And.intro b3 (And.intro n3 (And.intro ha (And.intro hl64 hSL))))
        refine wpAnyH_done (by kernel_rfl) ?_ _
        clear b3 n3 ha hl64 hSL hsz hi9 hone hZ n2 b2 b1 b0
        go_wp2_with (fail)
        have D := HRF.out.1.on HZ.out.1
        have tZ := (HZ.out.1.block _ (obj_lt HRF.out.2.1)).trans HRF.out.2.1
        have HD := Lib.hid (And.intro D tZ)
        have z0 : Z.cell? ⟨t, 0, none⟩ = some (.pointer (some ⟨G, 0, none⟩)) := by rw [cell_of_row _ _ _ _ _ _ tZ]; rfl
        have z1 : Z.cell? ⟨t, 1, none⟩ = some (.int .i64 (lo : Int)) := by rw [cell_of_row _ _ _ _ _ _ tZ]; rfl
        have z5 : Z.cell? ⟨t, 5, none⟩ = some (.int .i64 (used : Int)) := by rw [cell_of_row _ _ _ _ _ _ tZ]; rfl
        refine wp_region_held_drew (S := fun W => W.cell? ⟨t, 0, none⟩ = some (.pointer (some ⟨G, 0, none⟩)) ∧ W.cell? ⟨t, 1, none⟩ = some (.int .i64 (lo : Int)) ∧ W.cell? ⟨t, 5, none⟩ = some (.int .i64 (used : Int))) (by kernel_rfl) ⟨z0, z1, z5⟩ (fun hHeld => ?_)
        clear D tZ z0 z1 z5
        have b0 : Below Z.heap.size Z Z.drew := (Below.refl _ _).drew
        refine wpAnyH_take (i := 0) (oi := _) (v := ?vd0) rfl (by kernel_rfl) (by kernel_rfl) (by kernel_rfl) (fun _ _ _ h => h) (Or.inl ⟨by rfl, ?hyd0⟩) (by assumption) ?restd0
        case hyd0 =>
          intro W hSw
          clear hSw
          go_simp
          try (with_reducible rfl)
        try simp only [Act.put, List.getElem_toArray, List.getElem_cons_zero, List.getElem_cons_succ, List.setIfInBounds_toArray, List.set_cons_zero, List.set_cons_succ]
        refine wpAnyH_take (i := 1) (oi := _) (v := ?vd1) rfl (by kernel_rfl) (by kernel_rfl) (by kernel_rfl) (fun _ _ _ h => h) (Or.inl ⟨by rfl, ?hyd1⟩) (by assumption) ?restd1
        case hyd1 =>
          intro W hSw
          clear hSw
          go_simp
          try (with_reducible rfl)
        try simp only [Act.put, List.getElem_toArray, List.getElem_cons_zero, List.getElem_cons_succ, List.setIfInBounds_toArray, List.set_cons_zero, List.set_cons_succ]
        refine wpAnyH_take (i := 2) (oi := _) (v := ?vd2) rfl (by kernel_rfl) (by kernel_rfl) (by kernel_rfl) (fun _ _ _ h => h) (Or.inl ⟨by rfl, ?hyd2⟩) (by assumption) ?restd2
        case hyd2 =>
          intro W hSw
          clear hSw
          go_simp
          try (with_reducible rfl)
        try simp only [Act.put, List.getElem_toArray, List.getElem_cons_zero, List.getElem_cons_succ, List.setIfInBounds_toArray, List.set_cons_zero, List.set_cons_succ]
        refine wpAnyH_take (i := 3) (oi := _) (v := ?vd3) rfl (by kernel_rfl) (by kernel_rfl) (by kernel_rfl) (fun _ _ _ h => h) (Or.inl ⟨by rfl, ?hyd3⟩) (by assumption) ?restd3
        case hyd3 =>
          intro W hSw
          clear hSw
          go_simp
          try (with_reducible rfl)
        try simp only [Act.put, List.getElem_toArray, List.getElem_cons_zero, List.getElem_cons_succ, List.setIfInBounds_toArray, List.set_cons_zero, List.set_cons_succ]
        refine wpAnyH_take (i := 4) (oi := _) (v := ?vd4) rfl (by kernel_rfl) (by kernel_rfl) (by kernel_rfl) (fun _ _ _ h => h) (Or.inl ⟨by rfl, ?hyd4⟩) (by assumption) ?restd4
        case hyd4 =>
          intro W hSw
          obtain ⟨e0, e1, e2⟩ := hSw
          go_simp
          try (with_reducible rfl)
        try simp only [Act.put, List.getElem_toArray, List.getElem_cons_zero, List.getElem_cons_succ, List.setIfInBounds_toArray, List.set_cons_zero, List.set_cons_succ]
        refine wpAnyH_take (i := 5) (oi := _) (v := ?vd5) rfl (by kernel_rfl) (by kernel_rfl) (by kernel_rfl) (fun _ _ _ h => h) (Or.inl ⟨by rfl, ?hyd5⟩) (by assumption) ?restd5
        case hyd5 =>
          intro W hSw
          clear hSw
          go_simp
          try (with_reducible rfl)
        try simp only [Act.put, List.getElem_toArray, List.getElem_cons_zero, List.getElem_cons_succ, List.setIfInBounds_toArray, List.set_cons_zero, List.set_cons_succ]
        refine wpAnyH_take (i := 6) (oi := _) (v := ?vd6) rfl (by kernel_rfl) (by kernel_rfl) (by kernel_rfl) (fun _ _ _ h => h) (Or.inl ⟨by rfl, ?hyd6⟩) (by assumption) ?restd6
        case hyd6 =>
          intro W hSw
          clear hSw
          go_simp
          try (with_reducible rfl)
        try simp only [Act.put, List.getElem_toArray, List.getElem_cons_zero, List.getElem_cons_succ, List.setIfInBounds_toArray, List.set_cons_zero, List.set_cons_succ]
        refine wpAnyH_take (i := 7) (oi := _) (v := ?vd7) rfl (by kernel_rfl) (by kernel_rfl) (by kernel_rfl) (fun _ _ _ h => h) (Or.inl ⟨by rfl, ?hyd7⟩) (by assumption) ?restd7
        case hyd7 =>
          intro W hSw
          clear hSw
          go_simp
          try (with_reducible rfl)
        try simp only [Act.put, List.getElem_toArray, List.getElem_cons_zero, List.getElem_cons_succ, List.setIfInBounds_toArray, List.set_cons_zero, List.set_cons_succ]
        refine wpAnyH_take (i := 8) (oi := _) (v := ?vd8) rfl (by kernel_rfl) (by kernel_rfl) (by kernel_rfl) (fun _ _ _ h => h) (Or.inl ⟨by rfl, ?hyd8⟩) (by assumption) ?restd8
        case hyd8 =>
          intro W hSw
          obtain ⟨e0, e1, e2⟩ := hSw
          go_simp
          try (with_reducible rfl)
        try simp only [Act.put, List.getElem_toArray, List.getElem_cons_zero, List.getElem_cons_succ, List.setIfInBounds_toArray, List.set_cons_zero, List.set_cons_succ]
        refine wpAnyH_take (i := 9) (oi := _) (v := ?vd9) rfl (by kernel_rfl) (by kernel_rfl) (by kernel_rfl) (fun _ _ _ h => h) (Or.inl ⟨by rfl, ?hyd9⟩) (by assumption) ?restd9
        case hyd9 =>
          intro W hSw
          clear hSw
          go_simp
          try (with_reducible rfl)
        try simp only [Act.put, List.getElem_toArray, List.getElem_cons_zero, List.getElem_cons_succ, List.setIfInBounds_toArray, List.set_cons_zero, List.set_cons_succ]
        refine wpAnyH_take (i := 10) (oi := _) (v := ?vd10) rfl (by kernel_rfl) (by kernel_rfl) (by kernel_rfl) (fun _ _ _ h => h) (Or.inl ⟨by rfl, ?hyd10⟩) (by assumption) ?restd10
        case hyd10 =>
          intro W hSw
          clear hSw
          go_simp
          try (with_reducible rfl)
        try simp only [Act.put, List.getElem_toArray, List.getElem_cons_zero, List.getElem_cons_succ, List.setIfInBounds_toArray, List.set_cons_zero, List.set_cons_succ]
        refine wpAnyH_take (i := 11) (oi := _) (v := ?vd11) rfl (by kernel_rfl) (by kernel_rfl) (by kernel_rfl) (fun _ _ _ h => h) (Or.inl ⟨by rfl, ?hyd11⟩) (by assumption) ?restd11
        case hyd11 =>
          intro W hSw
          clear hSw
          go_simp
          try (with_reducible rfl)
        try simp only [Act.put, List.getElem_toArray, List.getElem_cons_zero, List.getElem_cons_succ, List.setIfInBounds_toArray, List.set_cons_zero, List.set_cons_succ]
        refine wpAnyH_take (i := 12) (oi := _) (v := ?vd12) rfl (by kernel_rfl) (by kernel_rfl) (by kernel_rfl) (fun _ _ _ h => h) (Or.inl ⟨by rfl, ?hyd12⟩) (by assumption) ?restd12
        case hyd12 =>
          intro W hSw
          obtain ⟨e0, e1, e2⟩ := hSw
          go_simp
          try (with_reducible rfl)
        try simp only [Act.put, List.getElem_toArray, List.getElem_cons_zero, List.getElem_cons_succ, List.setIfInBounds_toArray, List.set_cons_zero, List.set_cons_succ]
        refine wpAnyH_take (i := 13) (oi := _) (v := ?vd13) rfl (by kernel_rfl) (by kernel_rfl) (by kernel_rfl) (fun _ _ _ h => h) (Or.inl ⟨by rfl, ?hyd13⟩) (by assumption) ?restd13
        case hyd13 =>
          intro W hSw
          clear hSw
          go_simp
          try (with_reducible rfl)
        try simp only [Act.put, List.getElem_toArray, List.getElem_cons_zero, List.getElem_cons_succ, List.setIfInBounds_toArray, List.set_cons_zero, List.set_cons_succ]
        refine wpAnyH_take (i := 14) (oi := _) (v := ?vd14) rfl (by kernel_rfl) (by kernel_rfl) (by kernel_rfl) (fun _ _ _ h => h) (Or.inl ⟨by rfl, ?hyd14⟩) (by assumption) ?restd14
        case hyd14 =>
          intro W hSw
          clear hSw
          go_simp
          try (with_reducible rfl)
        try simp only [Act.put, List.getElem_toArray, List.getElem_cons_zero, List.getElem_cons_succ, List.setIfInBounds_toArray, List.set_cons_zero, List.set_cons_succ]
        refine wpAnyH_take (i := 15) (oi := _) (v := ?vd15) rfl (by kernel_rfl) (by kernel_rfl) (by kernel_rfl) (fun _ _ _ h => h) (Or.inl ⟨by rfl, ?hyd15⟩) (by assumption) ?restd15
        case hyd15 =>
          intro W hSw
          clear hSw
          go_simp
          try (with_reducible rfl)
        try simp only [Act.put, List.getElem_toArray, List.getElem_cons_zero, List.getElem_cons_succ, List.setIfInBounds_toArray, List.set_cons_zero, List.set_cons_succ]
        refine wpAnyH_take (i := 16) (oi := _) (v := ?vd16) rfl (by kernel_rfl) (by kernel_rfl) (by kernel_rfl) (fun _ _ _ h => h) (Or.inl ⟨by rfl, ?hyd16⟩) (by assumption) ?restd16
        case hyd16 =>
          intro W hSw
          clear hSw
          go_simp
          try (with_reducible rfl)
        try simp only [Act.put, List.getElem_toArray, List.getElem_cons_zero, List.getElem_cons_succ, List.setIfInBounds_toArray, List.set_cons_zero, List.set_cons_succ]
        obtain ⟨Y0, hY0⟩ : ∃ X, X = Z.drew := ⟨_, rfl⟩
        rw [← hY0] at b0 hHeld ⊢
        clear hY0
        refine wpAnyH_ready (rs := [17]) (by kernel_rfl) (by simp) ?_
        refine AllReadyH.cons (o := _) rfl (fun K hK => ?_) AllReadyH.nil
        go_simp
        go_at_call 42
        have nA := (b0.block _ (obj_lt HZ.out.2.1)).trans HZ.out.2.1
        have WR := dwrite_ok (HD.out.1.on b0) ⟨by have := HH.out.2.2.1; omega, by rw [HH.out.2.1.fuse]; exact Nat.zero_le _, by have := HH.out.2.2.2.1; omega⟩ HH.out.2.1.off (lo + used) (by have := HH.out.2.2.2.2.2.2.2.1; have := HH.out.2.2.2.2.2.2.2.2.2.2.2; omega) A (ofL SL) 64 (rowT_holds nA) (by rw [ofL_size, HZ.out.2.2.2.1]; decide) (fun f => by have := HRF.out.1.drum.lt _ f; have := HZ.out.2.2.1; omega)
        rw [ofL_size, HZ.out.2.2.2.1, hu3] at WR
        refine WR.mono ?_
        rintro e Y1 ⟨rfl, F1, d1, t1, g1⟩
        clear WR nA
        have tY0 := (b0.block _ (obj_lt HD.out.2)).trans HD.out.2
        have tY1 := (t1.block _ (obj_lt tY0) HRF.out.2.2.1).trans tY0
        have hS1 : Y1.cell? ⟨t, 0, none⟩ = some (.pointer (some ⟨G, 0, none⟩)) ∧ Y1.cell? ⟨t, 1, none⟩ = some (.int .i64 (lo : Int)) ∧ Y1.cell? ⟨t, 5, none⟩ = some (.int .i64 (used : Int)) := ⟨by rw [cell_of_row _ _ _ _ _ _ tY1]; rfl, by rw [cell_of_row _ _ _ _ _ _ tY1]; rfl, by rw [cell_of_row _ _ _ _ _ _ tY1]; rfl⟩
        have HS1 := Lib.hid hS1
        have z01 : wr.heap.size ≤ Y0.heap.size := Nat.le_trans HZ.out.1.size b0.size
        have hF1 : ∀ j, ¬ Fk j → j < wr.heap.size → ¬ F1 j := fun j hj hl f => by
          rcases g1 j f with h1 | h1
          · exact hj h1
          · have := h1.1; omega
        have HY := Lib.hid (show DW w Y1 F1 G N ((M).write (lo + used) (ofL (sectorL gen used groups 0 []))) ∧ Y1.heap[t]? = some (.cells (tapeV G lo hi gen groups used false) 118 (0, 0)) ∧ ¬ F1 t ∧ t < W.heap.size ∧ W.heap.size ≤ Y1.heap.size from
          ⟨by have e := HZ.out.2.2.2.2; rw [show bl ⟨#[]⟩ = [] from rfl] at e; rw [e]; exact d1, tY1, hF1 t HRF.out.2.2.1 (obj_lt HRF.out.2.1), HRF.out.2.2.2.1, by have := HRF.out.2.2.2.2; have := t1.size; omega⟩)
        clear d1 t1 g1 tY0 tY1 hS1 z01 hF1
        refine hK.out _ _ HS1.out (fun hHeld9 => ?_)
        clear hK K
        try simp only [Act.put, List.getElem_toArray, List.getElem_cons_zero, List.getElem_cons_succ, List.setIfInBounds_toArray, List.set_cons_zero, List.set_cons_succ]
        refine wpAnyH_ready (rs := [18]) (by kernel_rfl) (by simp) ?_
        refine AllReadyH.cons (o := _) rfl (fun K hK => ?_) AllReadyH.nil
        go_simp
        go_at_call 67
        refine (told_zero t Y1).mono ?_
        rintro e Y2 ⟨rfl, rfl⟩
        refine hK.out _ _ HS1.out (fun hHeld8 => ?_)
        clear hK K
        try simp only [Act.put, List.getElem_toArray, List.getElem_cons_zero, List.getElem_cons_succ, List.setIfInBounds_toArray, List.set_cons_zero, List.set_cons_succ]
        refine wpAnyH_take (i := 19) (oi := _) (v := ?vd19) rfl (by kernel_rfl) (by kernel_rfl) (by kernel_rfl) (fun _ _ _ h => h) (Or.inl ⟨by rfl, ?hyd19⟩) HS1.out ?restd19
        case hyd19 =>
          intro W hSw
          clear hSw
          go_simp
          try (with_reducible rfl)
        try simp only [Act.put, List.getElem_toArray, List.getElem_cons_zero, List.getElem_cons_succ, List.setIfInBounds_toArray, List.set_cons_zero, List.set_cons_succ]
        refine wpAnyH_done (by kernel_rfl) ?_ _
        clear hHeld hHeld8 hHeld9 b0
        go_wp2_with (fail)
        go_roundw
        case rel => exact ⟨1, by go_num, by omega, Lib.hid ⟨F1, by simpa [oneM] using HY.out⟩⟩
        case measure => simp [intOf]

      · go_simp
        have b1 := b0.alloc b0.size (.cells zSec 120)
        have n1 : (X0.alloc (.cells zSec 120)).heap[X0.heap.size]? = some (.cells zSec 120 (0, 0)) := heap_alloc_new _ _
        have ha : wr.heap.size ≤ X0.heap.size := b0.size
        obtain ⟨A, hA⟩ : ∃ A, X0.heap.size = A := ⟨_, rfl⟩
        rw [hA] at n1 ha
        try rw [hA]
        obtain ⟨X1, hX1⟩ : ∃ X1, X0.alloc (.cells zSec 120) = X1 := ⟨_, rfl⟩
        rw [hX1] at n1 b1
        try rw [hX1]
        refine hK.out _ _ (HSX.out.2 _ b1) (fun hHeld1 => ?_)
        clear hK K hX1 hA
        try simp only [Act.put, List.getElem_toArray, List.getElem_cons_zero, List.getElem_cons_succ, List.setIfInBounds_toArray, List.set_cons_zero, List.set_cons_succ]
        refine wpAnyH_ready (rs := [20]) (by kernel_rfl) (by simp) ?_
        refine AllReadyH.cons (o := _) rfl (fun K hK => ?_) AllReadyH.nil
        go_simp
        go_at_call 66
        have LY := tlay_ok gen used groups 0 HB.out.1 HB.out.2.1 HB.out.2.2.1 HB.out.2.2.2 none ⟨#[]⟩ 0 0 rfl (by decide) (fun _ => rfl) X1 (fun h0 => absurd h0 (by decide))
        refine LY.mono ?_
        rintro e X2 ⟨rfl, hb2⟩
        clear LY
        have n2 := (hb2.block _ (obj_lt n1)).trans n1
        have b2 := below_cat b1 hb2
        refine hK.out _ _ (HSX.out.2 _ b2) (fun hHeld2 => ?_)
        clear hK K hb2 n1
        try simp only [Act.put, List.getElem_toArray, List.getElem_cons_zero, List.getElem_cons_succ, List.setIfInBounds_toArray, List.set_cons_zero, List.set_cons_succ]
        refine wpAnyH_ready (rs := [22]) (by kernel_rfl) (by simp) ?_
        refine AllReadyH.cons (o := _) rfl (fun K hK => ?_) AllReadyH.nil
        obtain ⟨SL, hSL⟩ : ∃ SL, sectorL gen used groups 0 (bl ⟨#[]⟩) = SL := ⟨_, rfl⟩
        rw [hSL]
        have hl64 : SL.length = 64 := by rw [← hSL]; exact sectorL_length _ _ _ _ _ (by decide)
        have hsz : (bytesV (ofL SL)).toArray.size = 64 := by rw [List.size_toArray, bytesV_length, ofL_size, hl64]
        have hi9 : (Try.prog.info? 120).map (·.size) = some (bytesV (ofL SL)).toArray.size := by rw [hsz]; exact info64
        have hone : (bytesV (ofL SL)).toArray.all (·.oneCell') = true := by
          rw [List.all_toArray, List.all_eq_true]
          exact bytesV_one _
        refine step_is rfl (wp_store_row 120 _ _ rfl A (bytesV (ofL SL)).toArray (by rfl) (by rfl) 120 zSec n2 hi9 (by rw [hsz]; rfl) hone ?_)
        have b3 := below_setRow b2 ha (bytesV (ofL SL)).toArray
        have n3 := setRow_heap _ _ _ (bytesV (ofL SL)).toArray _ _ n2
        refine hK.out _ _ (HSX.out.2 _ b3) (fun hHeld3 => ?_)
        clear hK K hHeld hHeld1 hHeld2 hHeld3
        obtain ⟨Z, hZ⟩ : ∃ Z, X2.setRow A (bytesV (ofL SL)).toArray = Z := ⟨_, rfl⟩
        rw [hZ] at b3 n3
        try rw [hZ]
        have HZ := Lib.hid (And.intro b3 (And.intro n3 (And.intro ha (And.intro hl64 hSL))))
        refine wpAnyH_done (by kernel_rfl) ?_ _
        clear b3 n3 ha hl64 hSL hsz hi9 hone hZ n2 b2 b1 b0
        go_wp2_with (fail)
        have D := HRF.out.1.on HZ.out.1
        have tZ := (HZ.out.1.block _ (obj_lt HRF.out.2.1)).trans HRF.out.2.1
        have HD := Lib.hid (And.intro D tZ)
        have z0 : Z.cell? ⟨t, 0, none⟩ = some (.pointer (some ⟨G, 0, none⟩)) := by rw [cell_of_row _ _ _ _ _ _ tZ]; rfl
        have z1 : Z.cell? ⟨t, 1, none⟩ = some (.int .i64 (lo : Int)) := by rw [cell_of_row _ _ _ _ _ _ tZ]; rfl
        have z5 : Z.cell? ⟨t, 5, none⟩ = some (.int .i64 (used : Int)) := by rw [cell_of_row _ _ _ _ _ _ tZ]; rfl
        refine wp_region_held_drew (S := fun W => W.cell? ⟨t, 0, none⟩ = some (.pointer (some ⟨G, 0, none⟩)) ∧ W.cell? ⟨t, 1, none⟩ = some (.int .i64 (lo : Int)) ∧ W.cell? ⟨t, 5, none⟩ = some (.int .i64 (used : Int))) (by kernel_rfl) ⟨z0, z1, z5⟩ (fun hHeld => ?_)
        clear D tZ z0 z1 z5
        have b0 : Below Z.heap.size Z Z.drew := (Below.refl _ _).drew
        refine wpAnyH_take (i := 0) (oi := _) (v := ?ve0) rfl (by kernel_rfl) (by kernel_rfl) (by kernel_rfl) (fun _ _ _ h => h) (Or.inl ⟨by rfl, ?hye0⟩) (by assumption) ?reste0
        case hye0 =>
          intro W hSw
          clear hSw
          go_simp
          try (with_reducible rfl)
        try simp only [Act.put, List.getElem_toArray, List.getElem_cons_zero, List.getElem_cons_succ, List.setIfInBounds_toArray, List.set_cons_zero, List.set_cons_succ]
        refine wpAnyH_take (i := 1) (oi := _) (v := ?ve1) rfl (by kernel_rfl) (by kernel_rfl) (by kernel_rfl) (fun _ _ _ h => h) (Or.inl ⟨by rfl, ?hye1⟩) (by assumption) ?reste1
        case hye1 =>
          intro W hSw
          clear hSw
          go_simp
          try (with_reducible rfl)
        try simp only [Act.put, List.getElem_toArray, List.getElem_cons_zero, List.getElem_cons_succ, List.setIfInBounds_toArray, List.set_cons_zero, List.set_cons_succ]
        refine wpAnyH_take (i := 2) (oi := _) (v := ?ve2) rfl (by kernel_rfl) (by kernel_rfl) (by kernel_rfl) (fun _ _ _ h => h) (Or.inl ⟨by rfl, ?hye2⟩) (by assumption) ?reste2
        case hye2 =>
          intro W hSw
          clear hSw
          go_simp
          try (with_reducible rfl)
        try simp only [Act.put, List.getElem_toArray, List.getElem_cons_zero, List.getElem_cons_succ, List.setIfInBounds_toArray, List.set_cons_zero, List.set_cons_succ]
        refine wpAnyH_take (i := 3) (oi := _) (v := ?ve3) rfl (by kernel_rfl) (by kernel_rfl) (by kernel_rfl) (fun _ _ _ h => h) (Or.inl ⟨by rfl, ?hye3⟩) (by assumption) ?reste3
        case hye3 =>
          intro W hSw
          clear hSw
          go_simp
          try (with_reducible rfl)
        try simp only [Act.put, List.getElem_toArray, List.getElem_cons_zero, List.getElem_cons_succ, List.setIfInBounds_toArray, List.set_cons_zero, List.set_cons_succ]
        refine wpAnyH_take (i := 4) (oi := _) (v := ?ve4) rfl (by kernel_rfl) (by kernel_rfl) (by kernel_rfl) (fun _ _ _ h => h) (Or.inl ⟨by rfl, ?hye4⟩) (by assumption) ?reste4
        case hye4 =>
          intro W hSw
          obtain ⟨e0, e1, e2⟩ := hSw
          go_simp
          try (with_reducible rfl)
        try simp only [Act.put, List.getElem_toArray, List.getElem_cons_zero, List.getElem_cons_succ, List.setIfInBounds_toArray, List.set_cons_zero, List.set_cons_succ]
        refine wpAnyH_take (i := 5) (oi := _) (v := ?ve5) rfl (by kernel_rfl) (by kernel_rfl) (by kernel_rfl) (fun _ _ _ h => h) (Or.inl ⟨by rfl, ?hye5⟩) (by assumption) ?reste5
        case hye5 =>
          intro W hSw
          clear hSw
          go_simp
          try (with_reducible rfl)
        try simp only [Act.put, List.getElem_toArray, List.getElem_cons_zero, List.getElem_cons_succ, List.setIfInBounds_toArray, List.set_cons_zero, List.set_cons_succ]
        refine wpAnyH_take (i := 6) (oi := _) (v := ?ve6) rfl (by kernel_rfl) (by kernel_rfl) (by kernel_rfl) (fun _ _ _ h => h) (Or.inl ⟨by rfl, ?hye6⟩) (by assumption) ?reste6
        case hye6 =>
          intro W hSw
          clear hSw
          go_simp
          try (with_reducible rfl)
        try simp only [Act.put, List.getElem_toArray, List.getElem_cons_zero, List.getElem_cons_succ, List.setIfInBounds_toArray, List.set_cons_zero, List.set_cons_succ]
        refine wpAnyH_take (i := 7) (oi := _) (v := ?ve7) rfl (by kernel_rfl) (by kernel_rfl) (by kernel_rfl) (fun _ _ _ h => h) (Or.inl ⟨by rfl, ?hye7⟩) (by assumption) ?reste7
        case hye7 =>
          intro W hSw
          clear hSw
          go_simp
          try (with_reducible rfl)
        try simp only [Act.put, List.getElem_toArray, List.getElem_cons_zero, List.getElem_cons_succ, List.setIfInBounds_toArray, List.set_cons_zero, List.set_cons_succ]
        refine wpAnyH_take (i := 8) (oi := _) (v := ?ve8) rfl (by kernel_rfl) (by kernel_rfl) (by kernel_rfl) (fun _ _ _ h => h) (Or.inl ⟨by rfl, ?hye8⟩) (by assumption) ?reste8
        case hye8 =>
          intro W hSw
          obtain ⟨e0, e1, e2⟩ := hSw
          go_simp
          try (with_reducible rfl)
        try simp only [Act.put, List.getElem_toArray, List.getElem_cons_zero, List.getElem_cons_succ, List.setIfInBounds_toArray, List.set_cons_zero, List.set_cons_succ]
        refine wpAnyH_take (i := 9) (oi := _) (v := ?ve9) rfl (by kernel_rfl) (by kernel_rfl) (by kernel_rfl) (fun _ _ _ h => h) (Or.inl ⟨by rfl, ?hye9⟩) (by assumption) ?reste9
        case hye9 =>
          intro W hSw
          clear hSw
          go_simp
          try (with_reducible rfl)
        try simp only [Act.put, List.getElem_toArray, List.getElem_cons_zero, List.getElem_cons_succ, List.setIfInBounds_toArray, List.set_cons_zero, List.set_cons_succ]
        refine wpAnyH_take (i := 10) (oi := _) (v := ?ve10) rfl (by kernel_rfl) (by kernel_rfl) (by kernel_rfl) (fun _ _ _ h => h) (Or.inl ⟨by rfl, ?hye10⟩) (by assumption) ?reste10
        case hye10 =>
          intro W hSw
          clear hSw
          go_simp
          try (with_reducible rfl)
        try simp only [Act.put, List.getElem_toArray, List.getElem_cons_zero, List.getElem_cons_succ, List.setIfInBounds_toArray, List.set_cons_zero, List.set_cons_succ]
        refine wpAnyH_take (i := 11) (oi := _) (v := ?ve11) rfl (by kernel_rfl) (by kernel_rfl) (by kernel_rfl) (fun _ _ _ h => h) (Or.inl ⟨by rfl, ?hye11⟩) (by assumption) ?reste11
        case hye11 =>
          intro W hSw
          clear hSw
          go_simp
          try (with_reducible rfl)
        try simp only [Act.put, List.getElem_toArray, List.getElem_cons_zero, List.getElem_cons_succ, List.setIfInBounds_toArray, List.set_cons_zero, List.set_cons_succ]
        refine wpAnyH_take (i := 12) (oi := _) (v := ?ve12) rfl (by kernel_rfl) (by kernel_rfl) (by kernel_rfl) (fun _ _ _ h => h) (Or.inl ⟨by rfl, ?hye12⟩) (by assumption) ?reste12
        case hye12 =>
          intro W hSw
          obtain ⟨e0, e1, e2⟩ := hSw
          go_simp
          try (with_reducible rfl)
        try simp only [Act.put, List.getElem_toArray, List.getElem_cons_zero, List.getElem_cons_succ, List.setIfInBounds_toArray, List.set_cons_zero, List.set_cons_succ]
        refine wpAnyH_take (i := 13) (oi := _) (v := ?ve13) rfl (by kernel_rfl) (by kernel_rfl) (by kernel_rfl) (fun _ _ _ h => h) (Or.inl ⟨by rfl, ?hye13⟩) (by assumption) ?reste13
        case hye13 =>
          intro W hSw
          clear hSw
          go_simp
          try (with_reducible rfl)
        try simp only [Act.put, List.getElem_toArray, List.getElem_cons_zero, List.getElem_cons_succ, List.setIfInBounds_toArray, List.set_cons_zero, List.set_cons_succ]
        refine wpAnyH_take (i := 14) (oi := _) (v := ?ve14) rfl (by kernel_rfl) (by kernel_rfl) (by kernel_rfl) (fun _ _ _ h => h) (Or.inl ⟨by rfl, ?hye14⟩) (by assumption) ?reste14
        case hye14 =>
          intro W hSw
          clear hSw
          go_simp
          try (with_reducible rfl)
        try simp only [Act.put, List.getElem_toArray, List.getElem_cons_zero, List.getElem_cons_succ, List.setIfInBounds_toArray, List.set_cons_zero, List.set_cons_succ]
        refine wpAnyH_take (i := 15) (oi := _) (v := ?ve15) rfl (by kernel_rfl) (by kernel_rfl) (by kernel_rfl) (fun _ _ _ h => h) (Or.inl ⟨by rfl, ?hye15⟩) (by assumption) ?reste15
        case hye15 =>
          intro W hSw
          clear hSw
          go_simp
          try (with_reducible rfl)
        try simp only [Act.put, List.getElem_toArray, List.getElem_cons_zero, List.getElem_cons_succ, List.setIfInBounds_toArray, List.set_cons_zero, List.set_cons_succ]
        refine wpAnyH_take (i := 16) (oi := _) (v := ?ve16) rfl (by kernel_rfl) (by kernel_rfl) (by kernel_rfl) (fun _ _ _ h => h) (Or.inl ⟨by rfl, ?hye16⟩) (by assumption) ?reste16
        case hye16 =>
          intro W hSw
          clear hSw
          go_simp
          try (with_reducible rfl)
        try simp only [Act.put, List.getElem_toArray, List.getElem_cons_zero, List.getElem_cons_succ, List.setIfInBounds_toArray, List.set_cons_zero, List.set_cons_succ]
        obtain ⟨Y0, hY0⟩ : ∃ X, X = Z.drew := ⟨_, rfl⟩
        rw [← hY0] at b0 hHeld ⊢
        clear hY0
        refine wpAnyH_ready (rs := [17]) (by kernel_rfl) (by simp) ?_
        refine AllReadyH.cons (o := _) rfl (fun K hK => ?_) AllReadyH.nil
        go_simp
        go_at_call 42
        have nA := (b0.block _ (obj_lt HZ.out.2.1)).trans HZ.out.2.1
        have WR := dwrite_ok (HD.out.1.on b0) ⟨by have := HH.out.2.2.1; omega, by rw [HH.out.2.1.fuse]; exact Nat.zero_le _, by have := HH.out.2.2.2.1; omega⟩ HH.out.2.1.off (lo + used) (by have := HH.out.2.2.2.2.2.2.2.1; have := HH.out.2.2.2.2.2.2.2.2.2.2.2; omega) A (ofL SL) 64 (rowT_holds nA) (by rw [ofL_size, HZ.out.2.2.2.1]; decide) (fun f => by have := HRF.out.1.drum.lt _ f; have := HZ.out.2.2.1; omega)
        rw [ofL_size, HZ.out.2.2.2.1, hu3] at WR
        refine WR.mono ?_
        rintro e Y1 ⟨rfl, F1, d1, t1, g1⟩
        clear WR nA
        have tY0 := (b0.block _ (obj_lt HD.out.2)).trans HD.out.2
        have tY1 := (t1.block _ (obj_lt tY0) HRF.out.2.2.1).trans tY0
        have hS1 : Y1.cell? ⟨t, 0, none⟩ = some (.pointer (some ⟨G, 0, none⟩)) ∧ Y1.cell? ⟨t, 1, none⟩ = some (.int .i64 (lo : Int)) ∧ Y1.cell? ⟨t, 5, none⟩ = some (.int .i64 (used : Int)) := ⟨by rw [cell_of_row _ _ _ _ _ _ tY1]; rfl, by rw [cell_of_row _ _ _ _ _ _ tY1]; rfl, by rw [cell_of_row _ _ _ _ _ _ tY1]; rfl⟩
        have HS1 := Lib.hid hS1
        have z01 : wr.heap.size ≤ Y0.heap.size := Nat.le_trans HZ.out.1.size b0.size
        have hF1 : ∀ j, ¬ Fk j → j < wr.heap.size → ¬ F1 j := fun j hj hl f => by
          rcases g1 j f with h1 | h1
          · exact hj h1
          · have := h1.1; omega
        have HY := Lib.hid (show DW w Y1 F1 G N ((M).write (lo + used) (ofL (sectorL gen used groups 0 []))) ∧ Y1.heap[t]? = some (.cells (tapeV G lo hi gen groups used false) 118 (0, 0)) ∧ ¬ F1 t ∧ t < W.heap.size ∧ W.heap.size ≤ Y1.heap.size from
          ⟨by have e := HZ.out.2.2.2.2; rw [show bl ⟨#[]⟩ = [] from rfl] at e; rw [e]; exact d1, tY1, hF1 t HRF.out.2.2.1 (obj_lt HRF.out.2.1), HRF.out.2.2.2.1, by have := HRF.out.2.2.2.2; have := t1.size; omega⟩)
        clear d1 t1 g1 tY0 tY1 hS1 z01 hF1
        refine hK.out _ _ HS1.out (fun hHeld9 => ?_)
        clear hK K
        try simp only [Act.put, List.getElem_toArray, List.getElem_cons_zero, List.getElem_cons_succ, List.setIfInBounds_toArray, List.set_cons_zero, List.set_cons_succ]
        refine wpAnyH_ready (rs := [18]) (by kernel_rfl) (by simp) ?_
        refine AllReadyH.cons (o := _) rfl (fun K hK => ?_) AllReadyH.nil
        go_simp
        go_at_call 67
        refine (told_zero t Y1).mono ?_
        rintro e Y2 ⟨rfl, rfl⟩
        refine hK.out _ _ HS1.out (fun hHeld8 => ?_)
        clear hK K
        try simp only [Act.put, List.getElem_toArray, List.getElem_cons_zero, List.getElem_cons_succ, List.setIfInBounds_toArray, List.set_cons_zero, List.set_cons_succ]
        refine wpAnyH_take (i := 19) (oi := _) (v := ?ve19) rfl (by kernel_rfl) (by kernel_rfl) (by kernel_rfl) (fun _ _ _ h => h) (Or.inl ⟨by rfl, ?hye19⟩) HS1.out ?reste19
        case hye19 =>
          intro W hSw
          clear hSw
          go_simp
          try (with_reducible rfl)
        try simp only [Act.put, List.getElem_toArray, List.getElem_cons_zero, List.getElem_cons_succ, List.setIfInBounds_toArray, List.set_cons_zero, List.set_cons_succ]
        refine wpAnyH_done (by kernel_rfl) ?_ _
        clear hHeld hHeld8 hHeld9 b0
        go_wp2_with (fail)
        go_roundw
        case rel => exact ⟨1, by go_num, by omega, Lib.hid ⟨F1, by simpa [oneM] using HY.out⟩⟩
        case measure => simp [intOf]
    · obtain rfl : k = 1 := by omega
      have x4 : wr.cell? ⟨t, 4, none⟩ = some (.int .i64 (groups : Int)) := by rw [cell_of_row _ _ _ _ _ _ r2]; rfl
      have x5 : wr.cell? ⟨t, 5, none⟩ = some (.int .i64 (used : Int)) := by rw [cell_of_row _ _ _ _ _ _ r2]; rfl
      have f4 : wr.frozen? ⟨t, 4, none⟩ = false := frozen_of_row _ _ _ _ _ r2
      have f5 : wr.frozen? ⟨t, 5, none⟩ = false := frozen_of_row _ _ _ _ _ r2
      have w1 : IntKind.i64.wrap ((groups : Int) + 1) = (groups : Int) + 1 := by rw [IntKind.wrap_i64]; have := HH.out.2.2.2.2.2.2.2.2.2.2.1; omega
      have w2 : IntKind.i64.wrap ((used : Int) + 1) = (used : Int) + 1 := by rw [IntKind.wrap_i64]; have := HH.out.2.2.2.2.2.2.2.1; have := HH.out.2.2.2.2.2.2.2.2.1; have := HH.out.2.2.2.2.2.2.2.2.2.2.2; omega
      have q1 : (groups : Int) ≤ 1000000 := by have := HH.out.2.2.2.2.2.2.2.2.2.2.1; omega
      have q2 : (used : Int) ≤ 16384 := by have := HH.out.2.2.2.2.2.2.2.1; have := HH.out.2.2.2.2.2.2.2.2.1; have := HH.out.2.2.2.2.2.2.2.2.2.2.2; omega
      have q4 : (0 : Int) ≤ (used : Int) := by omega
      have q5 : (0 : Int) ≤ (groups : Int) := by omega
      have HE := Lib.hid (And.intro r1 (And.intro r2 r3))
      clear r1 r2 r3 r6 r7
      go_wp2_with (fail)
      go_ret
      have hr := u_row (k := 5) (.int .i64 ((used : Int) + 1)) (u_row (k := 4) (.int .i64 ((groups : Int) + 1)) HE.out.2.1)
      refine ⟨rfl, Fk, ⟨HE.out.1.drum.kept (fun j hj => ?_) (by show _ ≤ ((wr.setCell _ _).setCell _ _).heap.size; rw [set_size, set_size]; exact Nat.le_refl _), (HE.out.1.below.setCell HH.out.2.2.2.2.2.2.1 _).setCell HH.out.2.2.2.2.2.2.1 _, HE.out.1.since⟩, hr, HE.out.2.2⟩
      have hjt : j ≠ t := fun e => HE.out.2.2 (e ▸ hj)
      exact (set_other j hjt).trans (set_other j hjt)
end Go.Proofs.Ytggchfmglaijgaa
