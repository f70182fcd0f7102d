/- Proved here: whether a sector may go on with a tape's groups, by its two numbers, for any reader and any sector. -/
import Derived.Test.YtggchfmglaijgaaTapeTake
namespace Go.Proofs.Ytggchfmglaijgaa
open Go.RowKit

theorem wpList_load_wanted {P : Program} {ops : Array Oper} {rest : List Oper} {o : Oper} {a : Act} {w : World} {Q : Exit → Act → World → Prop} (hw : Region.wanted o (yielded ops a.tmps) = true) (ty : TypeId) (x : Operand) (ho : o.op = .load ty x)
    (g : Nat) (hx : a.eval x = .pointer (some ⟨g, 0, none⟩)) (t : TypeId) (cs : Array Value) (fr : Nat × Nat) (d : TypeDesc) (hg : w.heap[g]? = some (.cells cs t fr))
    (hu : P.underlying ty = some d) (hd : (match d with | .struct _ | .array _ _ => true | _ => false) = true) (hi : (P.info? ty).map (·.size) = some cs.size)
    (h : wpList P ops Q rest (a.put o.dst (.agg cs)) w) : wpList P ops Q (o :: rest) a w := by
  refine wpList_step fun K hK => ?_
  rw [if_pos hw]
  exact wp_load_row ty x ho g hx t cs fr d hg hu hd hi (hK _ _ h)
def behL (l : List UInt8) : Nat := valN ((l.drop 12).take 2)
def sizL (l : List UInt8) : Nat := valN ((l.drop 14).take 2)
/-- May a sector with so many behind it and so many bytes be next, where so many are missing? -/
def fitsP (m B S : Nat) : Bool := if m ≠ 0 ∧ B ≠ m - 1 then false else if 0 < B then decide (S = 48) else if m ≠ 0 ∧ S = 0 then false else decide (S ≤ 48)
theorem beq_dec (a b : Nat) : ((a : Int) == (b : Int)) = decide (a = b) := by
  rw [Bool.eq_iff_iff, beq_iff_eq, decide_eq_true_eq]; omega
set_option maxRecDepth 100000 in
set_option maxHeartbeats 4000000 in
theorem fits_first (R : Nat) (l : List UInt8) (hl : l.length = 64) (w : World) (h5 : w.cell? ⟨R, 5, none⟩ = some (.int .i64 0)) :
    Calls Try.prog 84 #[.pointer (some ⟨R, 0, none⟩), secV l] w fun e w' => e = .returned (.bool (fitsP 0 (behL l) (sizL l))) ∧ Below w.heap.size w w' := by
  obtain ⟨C, hC⟩ : ∃ C, (bytesV (ofL l)).toArray = C := ⟨_, rfl⟩
  have hsz : C.size = 64 := by rw [← hC, List.size_toArray, bytesV_length, ofL_size]; exact hl
  have hi : (Try.prog.info? 120).map (·.size) = some C.size := by rw [hsz]; exact info64
  have BH := fun W => behind_any l hl W
  have SZ := fun W => size_any l hl W
  obtain ⟨B, hB⟩ : ∃ B, valN ((l.drop 12).take 2) = B := ⟨_, rfl⟩
  obtain ⟨S, hS⟩ : ∃ S, valN ((l.drop 14).take 2) = S := ⟨_, rfl⟩
  unfold behL sizL
  unfold secV at *
  rw [hC] at BH SZ ⊢
  rw [hB] at BH ⊢
  rw [hS] at SZ ⊢
  clear hB hS hl
  obtain ⟨WA, hWA⟩ : ∃ WA, w.alloc (.cells C 120) = WA := ⟨_, rfl⟩
  have nA : WA.heap[w.heap.size]? = some (.cells C 120 (0, 0)) := by rw [← hWA]; exact heap_alloc_new _ _
  have bA : Below w.heap.size w WA := by rw [← hWA]; exact (Below.refl _ _).alloc (Nat.le_refl _) _
  have c5 : WA.cell? ⟨R, 5, none⟩ = some (.int .i64 0) := hb_cell bA h5
  have HB := Lib.hid BH
  have HS := Lib.hid SZ
  have HA := Lib.hid (And.intro nA bA)
  have HI := Lib.hid (And.intro hi h5)
  clear BH SZ nA bA h5 hi hsz hC
  go_enter Try.func84, Try.ntmps84
  go_wp2_with (refine wpList_load_row rfl 120 _ rfl w.heap.size rfl 120 C (0, 0) _ HA.out.1 Try.underlying120 rfl HI.out.1 ?_)
  refine wp_region_held_drew (S := fun _ => True) (by kernel_rfl) trivial (fun hHeld => ?_)
  refine wpAnyH_take (i := 0) (oi := _) (v := ?va0) rfl (by kernel_rfl) (by kernel_rfl) (by kernel_rfl) (fun _ _ _ h => h) (Or.inl ⟨by rfl, ?hya0⟩) trivial ?resta0
  case hya0 =>
    intro W hSw
    clear hSw
    go_simp
    try (with_reducible rfl)
  try simp only [Act.put, List.getElem_toArray, List.getElem_cons_zero, List.getElem_cons_succ, List.setIfInBounds_toArray, List.set_cons_zero, List.set_cons_succ]
  refine wpAnyH_take (i := 1) (oi := _) (v := ?va1) rfl (by kernel_rfl) (by kernel_rfl) (by kernel_rfl) (fun _ _ _ h => h) (Or.inl ⟨by rfl, ?hya1⟩) trivial ?resta1
  case hya1 =>
    intro W hSw
    clear hSw
    go_simp
    try (with_reducible rfl)
  try simp only [Act.put, List.getElem_toArray, List.getElem_cons_zero, List.getElem_cons_succ, List.setIfInBounds_toArray, List.set_cons_zero, List.set_cons_succ]
  refine wpAnyH_take (i := 2) (oi := _) (v := ?va2) rfl (by kernel_rfl) (by kernel_rfl) (by kernel_rfl) (fun _ _ _ h => h) (Or.inl ⟨by rfl, ?hya2⟩) trivial ?resta2
  case hya2 =>
    intro W hSw
    clear hSw
    go_simp
    try (with_reducible rfl)
  try simp only [Act.put, List.getElem_toArray, List.getElem_cons_zero, List.getElem_cons_succ, List.setIfInBounds_toArray, List.set_cons_zero, List.set_cons_succ]
  refine wpAnyH_take (i := 3) (oi := _) (v := undef) rfl (by kernel_rfl) (by kernel_rfl) (by kernel_rfl) (fun _ _ _ h => h) (Or.inr ⟨by rfl, rfl⟩) trivial ?resta3
  try simp only [Act.put, List.getElem_toArray, List.getElem_cons_zero, List.getElem_cons_succ, List.setIfInBounds_toArray, List.set_cons_zero, List.set_cons_succ]
  refine wpAnyH_take (i := 4) (oi := _) (v := undef) rfl (by kernel_rfl) (by kernel_rfl) (by kernel_rfl) (fun _ _ _ h => h) (Or.inr ⟨by rfl, rfl⟩) trivial ?resta4
  try simp only [Act.put, List.getElem_toArray, List.getElem_cons_zero, List.getElem_cons_succ, List.setIfInBounds_toArray, List.set_cons_zero, List.set_cons_succ]
  refine wpAnyH_take (i := 5) (oi := _) (v := undef) rfl (by kernel_rfl) (by kernel_rfl) (by kernel_rfl) (fun _ _ _ h => h) (Or.inr ⟨by rfl, rfl⟩) trivial ?resta5
  try simp only [Act.put, List.getElem_toArray, List.getElem_cons_zero, List.getElem_cons_succ, List.setIfInBounds_toArray, List.set_cons_zero, List.set_cons_succ]
  refine wpAnyH_take (i := 6) (oi := _) (v := undef) rfl (by kernel_rfl) (by kernel_rfl) (by kernel_rfl) (fun _ _ _ h => h) (Or.inr ⟨by rfl, rfl⟩) trivial ?resta6
  try simp only [Act.put, List.getElem_toArray, List.getElem_cons_zero, List.getElem_cons_succ, List.setIfInBounds_toArray, List.set_cons_zero, List.set_cons_succ]
  refine wpAnyH_take (i := 7) (oi := _) (v := undef) rfl (by kernel_rfl) (by kernel_rfl) (by kernel_rfl) (fun _ _ _ h => h) (Or.inr ⟨by rfl, rfl⟩) trivial ?resta7
  try simp only [Act.put, List.getElem_toArray, List.getElem_cons_zero, List.getElem_cons_succ, List.setIfInBounds_toArray, List.set_cons_zero, List.set_cons_succ]
  refine wpAnyH_take (i := 8) (oi := _) (v := undef) rfl (by kernel_rfl) (by kernel_rfl) (by kernel_rfl) (fun _ _ _ h => h) (Or.inr ⟨by rfl, rfl⟩) trivial ?resta8
  try simp only [Act.put, List.getElem_toArray, List.getElem_cons_zero, List.getElem_cons_succ, List.setIfInBounds_toArray, List.set_cons_zero, List.set_cons_succ]
  refine wpAnyH_take (i := 9) (oi := _) (v := undef) rfl (by kernel_rfl) (by kernel_rfl) (by kernel_rfl) (fun _ _ _ h => h) (Or.inr ⟨by rfl, rfl⟩) trivial ?resta9
  try simp only [Act.put, List.getElem_toArray, List.getElem_cons_zero, List.getElem_cons_succ, List.setIfInBounds_toArray, List.set_cons_zero, List.set_cons_succ]
  refine wpAnyH_take (i := 10) (oi := _) (v := undef) rfl (by kernel_rfl) (by kernel_rfl) (by kernel_rfl) (fun _ _ _ h => h) (Or.inr ⟨by rfl, rfl⟩) trivial ?resta10
  try simp only [Act.put, List.getElem_toArray, List.getElem_cons_zero, List.getElem_cons_succ, List.setIfInBounds_toArray, List.set_cons_zero, List.set_cons_succ]
  refine wpAnyH_take (i := 11) (oi := _) (v := ?va11) rfl (by kernel_rfl) (by kernel_rfl) (by kernel_rfl) (fun _ _ _ h => h) (Or.inl ⟨by rfl, ?hya11⟩) trivial ?resta11
  case hya11 =>
    intro W hSw
    clear hSw
    go_simp
    try (with_reducible rfl)
  try simp only [Act.put, List.getElem_toArray, List.getElem_cons_zero, List.getElem_cons_succ, List.setIfInBounds_toArray, List.set_cons_zero, List.set_cons_succ]
  refine wpAnyH_take (i := 12) (oi := _) (v := ?va12) rfl (by kernel_rfl) (by kernel_rfl) (by kernel_rfl) (fun _ _ _ h => h) (Or.inl ⟨by rfl, ?hya12⟩) trivial ?resta12
  case hya12 =>
    intro W hSw
    clear hSw
    go_simp
    try (with_reducible rfl)
  try simp only [Act.put, List.getElem_toArray, List.getElem_cons_zero, List.getElem_cons_succ, List.setIfInBounds_toArray, List.set_cons_zero, List.set_cons_succ]
  refine wpAnyH_done (by kernel_rfl) ?_ _
  clear hHeld
  obtain ⟨WD, hWD⟩ : ∃ WD, WA.drew = WD := ⟨_, rfl⟩
  have nD : WD.heap[w.heap.size]? = some (.cells C 120 (0, 0)) := by rw [← hWD]; exact HA.out.1
  have bD : Below w.heap.size w WD := by rw [← hWD]; exact HA.out.2.drew
  have HD := Lib.hid (And.intro nD bD)
  clear nD bD
  rw [hWD]
  clear hWD hWA c5
  go_wp2_with (refine wpList_load_row rfl 120 _ rfl w.heap.size rfl 120 C (0, 0) _ HD.out.1 Try.underlying120 rfl HI.out.1 ?_)
  refine (HB.out _).mono ?_
  rintro e W1 ⟨rfl, b1⟩
  have n1 := (b1.block _ (obj_lt HD.out.1)).trans HD.out.1
  have H1 := Lib.hid (And.intro n1 (below_cat HD.out.2 b1))
  clear n1 b1
  by_cases hb0 : 0 < B
  · have hb1 : (0 : Int) < (B : Int) := by omega
    have HB0 := Lib.hid hb0
    clear hb0
    go_wp2_with (refine wpList_load_row rfl 120 _ rfl w.heap.size rfl 120 C (0, 0) _ H1.out.1 Try.underlying120 rfl HI.out.1 ?_)
    refine (HS.out _).mono ?_
    rintro e W2 ⟨rfl, b2⟩
    have H2 := Lib.hid (below_cat H1.out.2 b2)
    clear b2
    go_wp2_with (fail)
    go_ret
    refine ⟨?_, H2.out⟩
    show Ending.returned (.bool ((S : Int) == 48)) = _
    rw [show ((S : Int) == 48) = decide (S = 48) from beq_dec S 48]
    unfold fitsP
    rw [if_neg (by omega), if_pos HB0.out]
  · obtain rfl : B = 0 := by omega
    clear hb0
    go_wp2_with (refine wpList_load_row rfl 120 _ rfl w.heap.size rfl 120 C (0, 0) _ H1.out.1 Try.underlying120 rfl HI.out.1 ?_)
    refine (HS.out _).mono ?_
    rintro e W2 ⟨rfl, b2⟩
    have H2 := Lib.hid (below_cat H1.out.2 b2)
    clear b2
    go_wp2_with (fail)
    go_ret
    refine ⟨?_, H2.out⟩
    show Ending.returned (.bool (decide ((S : Int) ≤ 48))) = _
    rw [show decide ((S : Int) ≤ 48) = decide (S ≤ 48) from by rw [decide_eq_decide]; omega]
    unfold fitsP
    rw [if_neg (by omega), if_neg (by omega), if_neg (by omega)]
set_option maxRecDepth 100000 in
set_option maxHeartbeats 4000000 in
theorem fits_next (R m : Nat) (hm0 : 0 < m) (hm : m ≤ 65536) (l : List UInt8) (hl : l.length = 64) (w : World) (h5 : w.cell? ⟨R, 5, none⟩ = some (.int .i64 (m : Int))) :
    Calls Try.prog 84 #[.pointer (some ⟨R, 0, none⟩), secV l] w fun e w' => e = .returned (.bool (fitsP m (behL l) (sizL l))) ∧ Below w.heap.size w w' := by
  obtain ⟨C, hC⟩ : ∃ C, (bytesV (ofL l)).toArray = C := ⟨_, rfl⟩
  have hsz : C.size = 64 := by rw [← hC, List.size_toArray, bytesV_length, ofL_size]; exact hl
  have hi : (Try.prog.info? 120).map (·.size) = some C.size := by rw [hsz]; exact info64
  have BH := fun W => behind_any l hl W
  have SZ := fun W => size_any l hl W
  obtain ⟨B, hB⟩ : ∃ B, valN ((l.drop 12).take 2) = B := ⟨_, rfl⟩
  obtain ⟨S, hS⟩ : ∃ S, valN ((l.drop 14).take 2) = S := ⟨_, rfl⟩
  unfold behL sizL
  unfold secV at *
  rw [hC] at BH SZ ⊢
  rw [hB] at BH ⊢
  rw [hS] at SZ ⊢
  clear hB hS hl
  have tm : ((m : Int) == 0) = false := by rw [beq_eq_false_iff_ne]; omega
  have m1 : (1 : Int) ≤ (m : Int) := by omega
  have m2 : (m : Int) ≤ 65536 := by omega
  have mw : IntKind.i64.wrap ((m : Int) - 1) = (m : Int) - 1 := by rw [IntKind.wrap_i64]; omega
  have HM := Lib.hid hm0
  clear hm0 hm
  obtain ⟨WA, hWA⟩ : ∃ WA, w.alloc (.cells C 120) = WA := ⟨_, rfl⟩
  have nA : WA.heap[w.heap.size]? = some (.cells C 120 (0, 0)) := by rw [← hWA]; exact heap_alloc_new _ _
  have bA : Below w.heap.size w WA := by rw [← hWA]; exact (Below.refl _ _).alloc (Nat.le_refl _) _
  have c5 : WA.cell? ⟨R, 5, none⟩ = some (.int .i64 (m : Int)) := hb_cell bA h5
  have HB := Lib.hid BH
  have HS := Lib.hid SZ
  have HA := Lib.hid (And.intro nA bA)
  have HI := Lib.hid (And.intro hi h5)
  have H5 := Lib.hid c5
  clear BH SZ nA bA h5 hi hsz hC
  go_enter Try.func84, Try.ntmps84
  go_wp2_with (refine wpList_load_row rfl 120 _ rfl w.heap.size rfl 120 C (0, 0) _ HA.out.1 Try.underlying120 rfl HI.out.1 ?_)
  clear c5
  refine wp_region_held_drew (S := fun W => W.heap[w.heap.size]? = some (.cells C 120 (0, 0)) ∧ W.cell? ⟨R, 5, none⟩ = some (.int .i64 (m : Int))) (by kernel_rfl) ⟨HA.out.1, H5.out⟩ (fun hHeld => ?_)
  have SX : ∀ W, Below WA.heap.size WA W → W.heap[w.heap.size]? = some (.cells C 120 (0, 0)) ∧ W.cell? ⟨R, 5, none⟩ = some (.int .i64 (m : Int)) := fun W hb => ⟨(hb.block _ (obj_lt HA.out.1)).trans HA.out.1, hb_cell hb H5.out⟩
  have HSX := Lib.hid SX
  clear SX
  have b0 : Below WA.heap.size WA WA.drew := (Below.refl _ _).drew
  refine wpAnyH_take (i := 0) (oi := _) (v := ?vb0) rfl (by kernel_rfl) (by kernel_rfl) (by kernel_rfl) (fun _ _ _ h => h) (Or.inl ⟨by rfl, ?hyb0⟩) (by assumption) ?restb0
  case hyb0 =>
    intro W hSw
    clear hSw
    go_simp
    try (with_reducible rfl)
  try simp only [Act.put, List.getElem_toArray, List.getElem_cons_zero, List.getElem_cons_succ, List.setIfInBounds_toArray, List.set_cons_zero, List.set_cons_succ]
  refine wpAnyH_take (i := 1) (oi := _) (v := ?vb1) rfl (by kernel_rfl) (by kernel_rfl) (by kernel_rfl) (fun _ _ _ h => h) (Or.inl ⟨by rfl, ?hyb1⟩) (by assumption) ?restb1
  case hyb1 =>
    intro W hSw
    clear hSw
    go_simp
    try (with_reducible rfl)
  try simp only [Act.put, List.getElem_toArray, List.getElem_cons_zero, List.getElem_cons_succ, List.setIfInBounds_toArray, List.set_cons_zero, List.set_cons_succ]
  refine wpAnyH_take (i := 2) (oi := _) (v := ?vb2) rfl (by kernel_rfl) (by kernel_rfl) (by kernel_rfl) (fun _ _ _ h => h) (Or.inl ⟨by rfl, ?hyb2⟩) (by assumption) ?restb2
  case hyb2 =>
    intro W hSw
    clear hSw
    go_simp
    try (with_reducible rfl)
  try simp only [Act.put, List.getElem_toArray, List.getElem_cons_zero, List.getElem_cons_succ, List.setIfInBounds_toArray, List.set_cons_zero, List.set_cons_succ]
  refine wpAnyH_take (i := 3) (oi := _) (v := .agg C) rfl (by kernel_rfl) (by kernel_rfl) (by kernel_rfl) (fun _ _ _ h => h) (Or.inl ⟨by rfl, ?hyb3⟩) (by assumption) ?restb3
  case hyb3 =>
    intro W hSw
    skip
    exact exec_load_row 120 _ rfl w.heap.size (by rfl) 120 C (0, 0) _ hSw.1 Try.underlying120 rfl HI.out.1
  try simp only [Act.put, List.getElem_toArray, List.getElem_cons_zero, List.getElem_cons_succ, List.setIfInBounds_toArray, List.set_cons_zero, List.set_cons_succ]
  refine wpAnyH_take (i := 5) (oi := _) (v := ?vb5) rfl (by kernel_rfl) (by kernel_rfl) (by kernel_rfl) (fun _ _ _ h => h) (Or.inl ⟨by rfl, ?hyb5⟩) (by assumption) ?restb5
  case hyb5 =>
    intro W hSw
    clear hSw
    go_simp
    try (with_reducible rfl)
  try simp only [Act.put, List.getElem_toArray, List.getElem_cons_zero, List.getElem_cons_succ, List.setIfInBounds_toArray, List.set_cons_zero, List.set_cons_succ]
  refine wpAnyH_take (i := 6) (oi := _) (v := ?vb6) rfl (by kernel_rfl) (by kernel_rfl) (by kernel_rfl) (fun _ _ _ h => h) (Or.inl ⟨by rfl, ?hyb6⟩) (by assumption) ?restb6
  case hyb6 =>
    intro W hSw
    clear hSw
    go_simp
    try (with_reducible rfl)
  try simp only [Act.put, List.getElem_toArray, List.getElem_cons_zero, List.getElem_cons_succ, List.setIfInBounds_toArray, List.set_cons_zero, List.set_cons_succ]
  refine wpAnyH_take (i := 7) (oi := _) (v := ?vb7) rfl (by kernel_rfl) (by kernel_rfl) (by kernel_rfl) (fun _ _ _ h => h) (Or.inl ⟨by rfl, ?hyb7⟩) (by assumption) ?restb7
  case hyb7 =>
    intro W hSw
    clear hSw
    go_simp
    try (with_reducible rfl)
  try simp only [Act.put, List.getElem_toArray, List.getElem_cons_zero, List.getElem_cons_succ, List.setIfInBounds_toArray, List.set_cons_zero, List.set_cons_succ]
  refine wpAnyH_take (i := 8) (oi := _) (v := ?vb8) rfl (by kernel_rfl) (by kernel_rfl) (by kernel_rfl) (fun _ _ _ h => h) (Or.inl ⟨by rfl, ?hyb8⟩) (by assumption) ?restb8
  case hyb8 =>
    intro W hSw
    obtain ⟨e0, e1⟩ := hSw
    go_simp
    try (with_reducible rfl)
  try simp only [Act.put, List.getElem_toArray, List.getElem_cons_zero, List.getElem_cons_succ, List.setIfInBounds_toArray, List.set_cons_zero, List.set_cons_succ]
  refine wpAnyH_take (i := 9) (oi := _) (v := ?vb9) rfl (by kernel_rfl) (by kernel_rfl) (by kernel_rfl) (fun _ _ _ h => h) (Or.inl ⟨by rfl, ?hyb9⟩) (by assumption) ?restb9
  case hyb9 =>
    intro W hSw
    clear hSw
    go_simp
    try (rw [mw])
    try (with_reducible rfl)
  try simp only [Act.put, List.getElem_toArray, List.getElem_cons_zero, List.getElem_cons_succ, List.setIfInBounds_toArray, List.set_cons_zero, List.set_cons_succ]
  obtain ⟨Y0, hY0⟩ : ∃ X, X = WA.drew := ⟨_, rfl⟩
  rw [← hY0] at b0 hHeld ⊢
  clear hY0
  refine wpAnyH_ready (rs := [4]) (by kernel_rfl) (by simp) ?_
  refine AllReadyH.cons (o := _) rfl (fun K hK => ?_) AllReadyH.nil
  rw [if_pos (by rfl)]
  go_simp
  go_at_call 86
  refine (HB.out Y0).mono ?_
  rintro e Y1 ⟨rfl, hb1⟩
  have b1 := below_cat b0 hb1
  refine hK.out _ _ (HSX.out _ b1) (fun hHeld1 => ?_)
  clear hK K
  try simp only [Act.put, List.getElem_toArray, List.getElem_cons_zero, List.getElem_cons_succ, List.setIfInBounds_toArray, List.set_cons_zero, List.set_cons_succ]
  refine wpAnyH_take (i := 10) (oi := _) (v := ?vb10) rfl (by kernel_rfl) (by kernel_rfl) (by kernel_rfl) (fun _ _ _ h => h) (Or.inl ⟨by rfl, ?hyb10⟩) (HSX.out _ b1) ?restb10
  case hyb10 =>
    intro W hSw
    clear hSw
    go_simp
    try (with_reducible rfl)
  try simp only [Act.put, List.getElem_toArray, List.getElem_cons_zero, List.getElem_cons_succ, List.setIfInBounds_toArray, List.set_cons_zero, List.set_cons_succ]
  refine wpAnyH_take (i := 11) (oi := _) (v := ?vb11) rfl (by kernel_rfl) (by kernel_rfl) (by kernel_rfl) (fun _ _ _ h => h) (Or.inl ⟨by rfl, ?hyb11⟩) (HSX.out _ b1) ?restb11
  case hyb11 =>
    intro W hSw
    clear hSw
    go_simp
    try (with_reducible rfl)
  try simp only [Act.put, List.getElem_toArray, List.getElem_cons_zero, List.getElem_cons_succ, List.setIfInBounds_toArray, List.set_cons_zero, List.set_cons_succ]
  refine wpAnyH_take (i := 12) (oi := _) (v := ?vb12) rfl (by kernel_rfl) (by kernel_rfl) (by kernel_rfl) (fun _ _ _ h => h) (Or.inl ⟨by rfl, ?hyb12⟩) (HSX.out _ b1) ?restb12
  case hyb12 =>
    intro W hSw
    clear hSw
    go_simp
    try (with_reducible rfl)
  try simp only [Act.put, List.getElem_toArray, List.getElem_cons_zero, List.getElem_cons_succ, List.setIfInBounds_toArray, List.set_cons_zero, List.set_cons_succ]
  refine wpAnyH_done (by kernel_rfl) ?_ _
  have n1 := (HSX.out _ b1).1
  have bb1 : Below w.heap.size w Y1 := below_cat HA.out.2 b1
  have H1 := Lib.hid (And.intro n1 bb1)
  clear hHeld hHeld1 b0 b1 hb1 n1 bb1 hWA H5 m1 m2 mw
  have hne : ((B : Int) != (m : Int) - 1) = decide (B ≠ m - 1) := by
    have := HM.out
    by_cases q : B = m - 1
    · rw [decide_eq_false (by omega), bne_eq_false_iff_eq]; omega
    · rw [decide_eq_true q, bne_iff_ne]; omega
  by_cases hq : B = m - 1
  · rw [hne, decide_eq_false (by omega)]
    have HQ := Lib.hid hq
    clear hq hne
    by_cases hb0 : 0 < B
    · have hb1 : (0 : Int) < (B : Int) := by omega
      have HB0 := Lib.hid hb0
      clear hb0
      go_wp2_with (refine wpList_load_row rfl 120 _ rfl w.heap.size rfl 120 C (0, 0) _ H1.out.1 Try.underlying120 rfl HI.out.1 ?_)
      refine (HB.out _).mono ?_
      rintro e W2 ⟨rfl, b2⟩
      have n2 := (b2.block _ (obj_lt H1.out.1)).trans H1.out.1
      have H2 := Lib.hid (And.intro n2 (below_cat H1.out.2 b2))
      clear n2 b2
      go_wp2_with (refine wpList_load_row rfl 120 _ rfl w.heap.size rfl 120 C (0, 0) _ H2.out.1 Try.underlying120 rfl HI.out.1 ?_)
      refine (HS.out _).mono ?_
      rintro e W3 ⟨rfl, b3⟩
      have H3 := Lib.hid (below_cat H2.out.2 b3)
      clear b3
      go_wp2_with (fail)
      go_ret
      refine ⟨?_, H3.out⟩
      show Ending.returned (.bool ((S : Int) == 48)) = _
      rw [show ((S : Int) == 48) = decide (S = 48) from beq_dec S 48]
      unfold fitsP
      rw [if_neg (by have := HQ.out; omega), if_pos HB0.out]
    · obtain rfl : B = 0 := by omega
      clear hb0
      go_wp2_with (refine wpList_load_row rfl 120 _ rfl w.heap.size rfl 120 C (0, 0) _ H1.out.1 Try.underlying120 rfl HI.out.1 ?_)
      refine (HB.out _).mono ?_
      rintro e W2 ⟨rfl, b2⟩
      have n2 := (b2.block _ (obj_lt H1.out.1)).trans H1.out.1
      have H2 := Lib.hid (And.intro n2 (below_cat H1.out.2 b2))
      clear n2 b2
      by_cases hs0 : S = 0
      · subst hs0
        go_wp2_with (refine wpList_load_wanted (by first | rfl | simp [Region.wanted, yielded]) 120 _ rfl w.heap.size rfl 120 C (0, 0) _ H2.out.1 Try.underlying120 rfl HI.out.1 ?_)
        refine (HS.out _).mono ?_
        rintro e W3 ⟨rfl, b3⟩
        have H3 := Lib.hid (below_cat H2.out.2 b3)
        clear b3
        go_wp2_with (fail)
        go_ret
        refine ⟨?_, H3.out⟩
        unfold fitsP
        rw [if_neg (by have := HQ.out; omega), if_neg (by omega), if_pos (by have := HM.out; omega)]
        rfl
      · have hs1 : ((S : Int) == 0) = false := by rw [beq_eq_false_iff_ne]; omega
        have HS0 := Lib.hid hs0
        clear hs0
        go_wp2_with (refine wpList_load_wanted (by first | rfl | simp [Region.wanted, yielded]) 120 _ rfl w.heap.size rfl 120 C (0, 0) _ H2.out.1 Try.underlying120 rfl HI.out.1 ?_)
        refine (HS.out _).mono ?_
        rintro e W3 ⟨rfl, b3⟩
        have n3 := (b3.block _ (obj_lt H2.out.1)).trans H2.out.1
        have H3 := Lib.hid (And.intro n3 (below_cat H2.out.2 b3))
        clear n3 b3
        go_wp2_with (refine wpList_load_row rfl 120 _ rfl w.heap.size rfl 120 C (0, 0) _ H3.out.1 Try.underlying120 rfl HI.out.1 ?_)
        refine (HS.out _).mono ?_
        rintro e W4 ⟨rfl, b4⟩
        have H4 := Lib.hid (below_cat H3.out.2 b4)
        clear b4
        go_wp2_with (fail)
        go_ret
        refine ⟨?_, H4.out⟩
        show Ending.returned (.bool (decide ((S : Int) ≤ 48))) = _
        rw [show decide ((S : Int) ≤ 48) = decide (S ≤ 48) from by rw [decide_eq_decide]; omega]
        unfold fitsP
        rw [if_neg (by have := HQ.out; omega), if_neg (by omega), if_neg (by have := HS0.out; omega)]
  · rw [hne, decide_eq_true hq]
    have HQ := Lib.hid hq
    clear hq hne
    go_wp2_with (fail)
    go_ret
    refine ⟨?_, H1.out.2⟩
    unfold fitsP
    rw [if_pos (by have := HM.out; have := HQ.out; omega)]
    rfl
theorem fits_any (R m : Nat) (hm : m ≤ 65536) (l : List UInt8) (hl : l.length = 64) (w : World) (h5 : w.cell? ⟨R, 5, none⟩ = some (.int .i64 (m : Int))) :
    Calls Try.prog 84 #[.pointer (some ⟨R, 0, none⟩), secV l] w fun e w' => e = .returned (.bool (fitsP m (behL l) (sizL l))) ∧ Below w.heap.size w w' := by
  rcases Nat.eq_zero_or_pos m with rfl | h
  · exact fits_first R l hl w h5
  · exact fits_next R m h hm l hl w h5
end Go.Proofs.Ytggchfmglaijgaa
