/- Proved here: what the program reads of a sector of a tape: its two numbers; a blank one begins no group. -/
import Derived.Test.YtphcifejdggeoaaTapeLay
import Derived.Stop.BytesEq
namespace Go.Proofs.Ytphcifejdggeoaa
open Go.RowKit

def secV (l : List UInt8) : Value := .agg (bytesV (ofL l)).toArray
theorem rowT_holds {W : World} {g : Nat} {l : List UInt8} {T : TypeId} (h : W.heap[g]? = some (.cells (bytesV (ofL l)).toArray T (0, 0))) : HoldsB W (some ⟨g, 0, none⟩) (ofL l) := fun _ => ⟨g, 0, rfl, fun j hj => by
  have h2 := bl_get (ofL l) j hj
  rw [bl_ofL] at h2
  rw [cell_of_row _ _ _ _ _ _ h, List.getElem?_toArray, bytesV_ofL, Nat.zero_add, List.getElem?_map, h2]
  rfl⟩
theorem val_two (l : List UInt8) (i : Nat) : valN ((l.drop i).take 2) < 65536 := by
  have h := valG_lt ((l.drop i).take 2)
  have h2 : ((l.drop i).take 2).length ≤ 2 := by rw [List.length_take]; omega
  have h3 : 256 ^ ((l.drop i).take 2).length ≤ 256 ^ 2 := Nat.pow_le_pow_right (by decide) h2
  unfold valN
  omega
set_option maxHeartbeats 2000000 in
theorem behind_any (l : List UInt8) (hl : l.length = 64) (w : World) :
    Calls Try.prog 87 #[secV l] w fun e w' => e = .returned (.int .i64 (valN ((l.drop 12).take 2) : Nat)) ∧ Below w.heap.size w w' := by
  unfold secV
  obtain ⟨WA, hWA⟩ : ∃ WA, w.alloc (.cells (bytesV (ofL l)).toArray 120) = WA := ⟨_, rfl⟩
  have nA : WA.heap[w.heap.size]? = some (.cells (bytesV (ofL l)).toArray 120 (0, 0)) := by rw [← hWA]; exact heap_alloc_new _ _
  have bA : Below w.heap.size w WA := by rw [← hWA]; exact (Below.refl _ _).alloc (Nat.le_refl _) _
  have NB := number_any (some ⟨w.heap.size, 0 + 12, none⟩) ((ofL l).extract 12 14) 2 52 WA (ext_size _ _ _ (by rw [ofL_size, hl]; decide)) (by decide) ((rowT_holds nA).part 12 14 (by rw [ofL_size, hl]; decide))
  rw [bl_extract, bl_ofL] at NB
  have hV := val_two l 12
  obtain ⟨V, hv⟩ : ∃ V, valN ((l.drop 12).take 2) = V := ⟨_, rfl⟩
  obtain ⟨C, hC⟩ : ∃ C, (bytesV (ofL l)).toArray = C := ⟨_, rfl⟩
  rw [show 14 - 12 = 2 from rfl, hv] at NB
  rw [hv] at hV ⊢
  rw [hC] at hWA ⊢
  have HN := Lib.hid NB
  have HB := Lib.hid bA
  have hw64 : IntKind.i64.wrap ((V : Nat) : Int) = ((V : Nat) : Int) := by rw [IntKind.wrap_i64]; omega
  clear nA bA NB hV hv hC hl
  go_enter Try.func87, Try.ntmps87
  go_wp2_with (fail)
  refine HN.out.mono ?_
  rintro e w' ⟨rfl, rfl⟩
  go_wp2_with (fail)
  go_ret
  exact ⟨rfl, HB.out⟩
set_option maxHeartbeats 2000000 in
theorem size_any (l : List UInt8) (hl : l.length = 64) (w : World) :
    Calls Try.prog 86 #[secV l] w fun e w' => e = .returned (.int .i64 (valN ((l.drop 14).take 2) : Nat)) ∧ Below w.heap.size w w' := by
  unfold secV
  obtain ⟨WA, hWA⟩ : ∃ WA, w.alloc (.cells (bytesV (ofL l)).toArray 120) = WA := ⟨_, rfl⟩
  have nA : WA.heap[w.heap.size]? = some (.cells (bytesV (ofL l)).toArray 120 (0, 0)) := by rw [← hWA]; exact heap_alloc_new _ _
  have bA : Below w.heap.size w WA := by rw [← hWA]; exact (Below.refl _ _).alloc (Nat.le_refl _) _
  have NB := number_any (some ⟨w.heap.size, 0 + 14, none⟩) ((ofL l).extract 14 16) 2 50 WA (ext_size _ _ _ (by rw [ofL_size, hl]; decide)) (by decide) ((rowT_holds nA).part 14 16 (by rw [ofL_size, hl]; decide))
  rw [bl_extract, bl_ofL] at NB
  have hV := val_two l 14
  obtain ⟨V, hv⟩ : ∃ V, valN ((l.drop 14).take 2) = V := ⟨_, rfl⟩
  obtain ⟨C, hC⟩ : ∃ C, (bytesV (ofL l)).toArray = C := ⟨_, rfl⟩
  rw [show 16 - 14 = 2 from rfl, hv] at NB
  rw [hv] at hV ⊢
  rw [hC] at hWA ⊢
  have HN := Lib.hid NB
  have HB := Lib.hid bA
  have hw64 : IntKind.i64.wrap ((V : Nat) : Int) = ((V : Nat) : Int) := by rw [IntKind.wrap_i64]; omega
  clear nA bA NB hV hv hC hl
  go_enter Try.func86, Try.ntmps86
  go_wp2_with (fail)
  refine HN.out.mono ?_
  rintro e w' ⟨rfl, rfl⟩
  go_wp2_with (fail)
  go_ret
  exact ⟨rfl, HB.out⟩
set_option maxHeartbeats 2000000 in
theorem fits_blank (R : Nat) (w : World) (h5 : w.cell? ⟨R, 5, none⟩ = some (.int .i64 0)) :
    Calls Try.prog 85 #[.pointer (some ⟨R, 0, none⟩), secV (zL 64)] w fun e w' => e = .returned (.bool true) ∧ Below w.heap.size w w' := by
  obtain ⟨C, hC⟩ : ∃ C, (bytesV (ofL (zL 64))).toArray = C := ⟨_, rfl⟩
  have hsz : C.size = 64 := by rw [← hC, List.size_toArray, bytesV_length, ofL_size]; rfl
  have hi : (Try.prog.info? 120).map (·.size) = some C.size := by rw [hsz]; exact info64
  have BH := fun W => behind_any (zL 64) (by rfl) W
  have SZ := fun W => size_any (zL 64) (by rfl) W
  rw [show valN ((List.drop 12 (zL 64)).take 2) = 0 from rfl] at BH
  rw [show valN ((List.drop 14 (zL 64)).take 2) = 0 from rfl] at SZ
  unfold secV at *
  rw [hC] at BH SZ ⊢
  obtain ⟨WA, hWA⟩ : ∃ WA, w.alloc (.cells C 120) = WA := ⟨_, rfl⟩
  have nA : WA.heap[w.heap.size]? = some (.cells C 120 (0, 0)) := by rw [← hWA]; exact heap_alloc_new _ _
  have bA : Below w.heap.size w WA := by rw [← hWA]; exact (Below.refl _ _).alloc (Nat.le_refl _) _
  have c5 : WA.cell? ⟨R, 5, none⟩ = some (.int .i64 0) := hb_cell bA h5
  have HB := Lib.hid BH
  have HS := Lib.hid SZ
  have HA := Lib.hid (And.intro nA bA)
  have HI := Lib.hid (And.intro hi h5)
  clear BH SZ nA bA h5 hi hsz hC
  go_enter Try.func85, Try.ntmps85
  go_wp2_with (refine wpList_load_row rfl 120 _ rfl w.heap.size rfl 120 C (0, 0) _ HA.out.1 Try.underlying120 rfl HI.out.1 ?_)
  refine wp_region_held_drew (S := fun _ => True) (by kernel_rfl) trivial (fun hHeld => ?_)
  refine wpAnyH_take (i := 0) (oi := _) (v := ?va0) rfl (by kernel_rfl) (by kernel_rfl) (by kernel_rfl) (fun _ _ _ h => h) (Or.inl ⟨by rfl, ?hya0⟩) trivial ?resta0
  case hya0 =>
    intro W hSw
    clear hSw
    go_simp
    try (with_reducible rfl)
  try simp only [Act.put, List.getElem_toArray, List.getElem_cons_zero, List.getElem_cons_succ, List.setIfInBounds_toArray, List.set_cons_zero, List.set_cons_succ]
  refine wpAnyH_take (i := 1) (oi := _) (v := ?va1) rfl (by kernel_rfl) (by kernel_rfl) (by kernel_rfl) (fun _ _ _ h => h) (Or.inl ⟨by rfl, ?hya1⟩) trivial ?resta1
  case hya1 =>
    intro W hSw
    clear hSw
    go_simp
    try (with_reducible rfl)
  try simp only [Act.put, List.getElem_toArray, List.getElem_cons_zero, List.getElem_cons_succ, List.setIfInBounds_toArray, List.set_cons_zero, List.set_cons_succ]
  refine wpAnyH_take (i := 2) (oi := _) (v := ?va2) rfl (by kernel_rfl) (by kernel_rfl) (by kernel_rfl) (fun _ _ _ h => h) (Or.inl ⟨by rfl, ?hya2⟩) trivial ?resta2
  case hya2 =>
    intro W hSw
    clear hSw
    go_simp
    try (with_reducible rfl)
  try simp only [Act.put, List.getElem_toArray, List.getElem_cons_zero, List.getElem_cons_succ, List.setIfInBounds_toArray, List.set_cons_zero, List.set_cons_succ]
  refine wpAnyH_take (i := 3) (oi := _) (v := undef) rfl (by kernel_rfl) (by kernel_rfl) (by kernel_rfl) (fun _ _ _ h => h) (Or.inr ⟨by rfl, rfl⟩) trivial ?resta3
  try simp only [Act.put, List.getElem_toArray, List.getElem_cons_zero, List.getElem_cons_succ, List.setIfInBounds_toArray, List.set_cons_zero, List.set_cons_succ]
  refine wpAnyH_take (i := 4) (oi := _) (v := undef) rfl (by kernel_rfl) (by kernel_rfl) (by kernel_rfl) (fun _ _ _ h => h) (Or.inr ⟨by rfl, rfl⟩) trivial ?resta4
  try simp only [Act.put, List.getElem_toArray, List.getElem_cons_zero, List.getElem_cons_succ, List.setIfInBounds_toArray, List.set_cons_zero, List.set_cons_succ]
  refine wpAnyH_take (i := 5) (oi := _) (v := undef) rfl (by kernel_rfl) (by kernel_rfl) (by kernel_rfl) (fun _ _ _ h => h) (Or.inr ⟨by rfl, rfl⟩) trivial ?resta5
  try simp only [Act.put, List.getElem_toArray, List.getElem_cons_zero, List.getElem_cons_succ, List.setIfInBounds_toArray, List.set_cons_zero, List.set_cons_succ]
  refine wpAnyH_take (i := 6) (oi := _) (v := undef) rfl (by kernel_rfl) (by kernel_rfl) (by kernel_rfl) (fun _ _ _ h => h) (Or.inr ⟨by rfl, rfl⟩) trivial ?resta6
  try simp only [Act.put, List.getElem_toArray, List.getElem_cons_zero, List.getElem_cons_succ, List.setIfInBounds_toArray, List.set_cons_zero, List.set_cons_succ]
  refine wpAnyH_take (i := 7) (oi := _) (v := undef) rfl (by kernel_rfl) (by kernel_rfl) (by kernel_rfl) (fun _ _ _ h => h) (Or.inr ⟨by rfl, rfl⟩) trivial ?resta7
  try simp only [Act.put, List.getElem_toArray, List.getElem_cons_zero, List.getElem_cons_succ, List.setIfInBounds_toArray, List.set_cons_zero, List.set_cons_succ]
  refine wpAnyH_take (i := 8) (oi := _) (v := undef) rfl (by kernel_rfl) (by kernel_rfl) (by kernel_rfl) (fun _ _ _ h => h) (Or.inr ⟨by rfl, rfl⟩) trivial ?resta8
  try simp only [Act.put, List.getElem_toArray, List.getElem_cons_zero, List.getElem_cons_succ, List.setIfInBounds_toArray, List.set_cons_zero, List.set_cons_succ]
  refine wpAnyH_take (i := 9) (oi := _) (v := undef) rfl (by kernel_rfl) (by kernel_rfl) (by kernel_rfl) (fun _ _ _ h => h) (Or.inr ⟨by rfl, rfl⟩) trivial ?resta9
  try simp only [Act.put, List.getElem_toArray, List.getElem_cons_zero, List.getElem_cons_succ, List.setIfInBounds_toArray, List.set_cons_zero, List.set_cons_succ]
  refine wpAnyH_take (i := 10) (oi := _) (v := undef) rfl (by kernel_rfl) (by kernel_rfl) (by kernel_rfl) (fun _ _ _ h => h) (Or.inr ⟨by rfl, rfl⟩) trivial ?resta10
  try simp only [Act.put, List.getElem_toArray, List.getElem_cons_zero, List.getElem_cons_succ, List.setIfInBounds_toArray, List.set_cons_zero, List.set_cons_succ]
  refine wpAnyH_take (i := 11) (oi := _) (v := ?va11) rfl (by kernel_rfl) (by kernel_rfl) (by kernel_rfl) (fun _ _ _ h => h) (Or.inl ⟨by rfl, ?hya11⟩) trivial ?resta11
  case hya11 =>
    intro W hSw
    clear hSw
    go_simp
    try (with_reducible rfl)
  try simp only [Act.put, List.getElem_toArray, List.getElem_cons_zero, List.getElem_cons_succ, List.setIfInBounds_toArray, List.set_cons_zero, List.set_cons_succ]
  refine wpAnyH_take (i := 12) (oi := _) (v := ?va12) rfl (by kernel_rfl) (by kernel_rfl) (by kernel_rfl) (fun _ _ _ h => h) (Or.inl ⟨by rfl, ?hya12⟩) trivial ?resta12
  case hya12 =>
    intro W hSw
    clear hSw
    go_simp
    try (with_reducible rfl)
  try simp only [Act.put, List.getElem_toArray, List.getElem_cons_zero, List.getElem_cons_succ, List.setIfInBounds_toArray, List.set_cons_zero, List.set_cons_succ]
  refine wpAnyH_done (by kernel_rfl) ?_ _
  clear hHeld
  obtain ⟨WD, hWD⟩ : ∃ WD, WA.drew = WD := ⟨_, rfl⟩
  have nD : WD.heap[w.heap.size]? = some (.cells C 120 (0, 0)) := by rw [← hWD]; exact HA.out.1
  have bD : Below w.heap.size w WD := by rw [← hWD]; exact HA.out.2.drew
  have HD := Lib.hid (And.intro nD bD)
  clear nD bD
  rw [hWD]
  clear hWD hWA c5
  go_wp2_with (refine wpList_load_row rfl 120 _ rfl w.heap.size rfl 120 C (0, 0) _ HD.out.1 Try.underlying120 rfl HI.out.1 ?_)
  refine (HB.out _).mono ?_
  rintro e W1 ⟨rfl, b1⟩
  have n1 := (b1.block _ (obj_lt HD.out.1)).trans HD.out.1
  have H1 := Lib.hid (And.intro n1 (below_cat HD.out.2 b1))
  clear n1 b1
  go_wp2_with (refine wpList_load_row rfl 120 _ rfl w.heap.size rfl 120 C (0, 0) _ H1.out.1 Try.underlying120 rfl HI.out.1 ?_)
  refine (HS.out _).mono ?_
  rintro e W2 ⟨rfl, b2⟩
  have H2 := Lib.hid (below_cat H1.out.2 b2)
  clear b2
  go_wp2_with (fail)
  go_ret
  exact ⟨rfl, H2.out⟩
theorem splice_whole (Z cs : List Value) (h : cs.length = Z.length) : splice Z 0 cs = cs := by
  unfold splice
  simp [h]
theorem cells_at {W : World} {b off : Nat} {s : ByteArray} (h : HoldsB W (some ⟨b, off, none⟩) s) (j : Nat) (v : Value) (hv : (bytesV s)[j]? = some v) : W.cell? ((⟨b, off, none⟩ : Addr).add j) = some v := by
  have hj : j < s.size := by
    by_cases hl : j < s.size
    · exact hl
    · rw [List.getElem?_eq_none (by rw [bytesV_length]; omega)] at hv
      cases hv
  obtain ⟨b', off', e, hc⟩ := h (by omega)
  cases e
  rw [bytesV_get s j hj] at hv
  injection hv with hv
  subst hv
  rw [show (⟨b, off, none⟩ : Addr).add j = ⟨b, off + j, none⟩ from by unfold Addr.add; split <;> simp_all]
  exact hc j hj
theorem exec_load_row {P : Program} {w : World} {o : Oper} {a : Act} (ty : TypeId) (x : Operand) (ho : o.op = .load ty x) (g : Nat) (hx : a.eval x = .pointer (some ⟨g, 0, none⟩)) (t : TypeId) (cs : Array Value) (fr : Nat × Nat) (d : TypeDesc) (hg : w.heap[g]? = some (.cells cs t fr))
    (hu : P.underlying ty = some d) (hd : (match d with | .struct _ | .array _ _ => true | _ => false) = true) (hi : (P.info? ty).map (·.size) = some cs.size) :
    (execOp a.eval o).run P w = .ok (.value (.agg cs)) w := by
  unfold execOp
  simp only [ho, hx, Instr.loadAt, Instr.sureAddr, Sem.run_bind, Sem.run_pure, Result.andThen_ok, run_loadVar_row w g t ty cs fr d hg hu hd hi]
theorem exec_neq_bytes {P : Program} {w : World} {o : Oper} {a : Act} (T e U : TypeId) (n : Nat) (x y : Operand) (ho : o.op = .binOp .neq T x y U) (xs ys : List UInt8) (hx : a.eval x = .agg (bytesV (ofL xs)).toArray) (hy : a.eval y = .agg (bytesV (ofL ys)).toArray)
    (hm : P.eqGuardType P.depth T = false) (ht : P.underlying T = some (.array n e)) (he : P.underlying e = some (.int .u8)) (hsz : ∀ w, (sizeOf e).run P w = .ok 1 w) (hxn : xs.length = n) (hyn : ys.length = n) :
    (execOp a.eval o).run P w = .ok (.value (.bool (!(xs == ys)))) w := by
  have h1 := run_equalIn_bytes (P := P) w 9998 T e n ht he hsz xs ys hxn hyn
  have hc : ∀ l : List UInt8, bytesV (ofL l) = l.map Extern.Stop.cell := fun l => bytesV_ofL l
  rw [← hc, ← hc] at h1
  unfold execOp
  simp only [ho, hx, hy, Sem.run_bind, run_eqGuard_agg w .neq T x y _ _ hm, Result.andThen_ok, run_neq_struct, h1, Sem.run_pure]
theorem size_byte (w : World) : (sizeOf 5).run Try.prog w = .ok 1 w := by
  obtain ⟨ib, hib, hib0, hib1, hib2⟩ := info_parts infoByte
  simp [sizeOf, typeInfo, Sem.run_bind, hib, hib1]
theorem blank_not_laid : (!(zL 64 == sectorL 1 0 0 0 [])) = true := by kernel_rfl
set_option maxRecDepth 100000 in
set_option maxHeartbeats 8000000 in
theorem take_blank (R : Nat) (b off c : Nat) (w : World) (hR : w.heap[R]? = some (.cells #[.int .i64 1, .slice none 0 0, .int .i64 0, .slice none 0 0, .int .i64 0, .int .i64 0] 115 (0, 0))) (hp : HoldsB w (some ⟨b, off, none⟩) (ofL (zL 64))) :
    Calls Try.prog 64 #[.pointer (some ⟨R, 0, none⟩), .slice (some ⟨b, off, none⟩) 64 c] w fun e w' => e = .returned (.bool false) ∧ Below w.heap.size w w' := by
  obtain ⟨hz, hzs⟩ := zero_of_info infoSec
  obtain ⟨C, hC⟩ : ∃ C, (bytesV (ofL (zL 64))).toArray = C := ⟨_, rfl⟩
  have hsz : C.size = 64 := by rw [← hC, List.size_toArray, bytesV_length, ofL_size]; rfl
  have hi : (Try.prog.info? 120).map (·.size) = some C.size := by rw [hsz]; exact info64
  have HHC := Lib.hid hC
  have HI := Lib.hid hi
  have BH := fun W => behind_any (zL 64) (by rfl) W
  have SZ := fun W => size_any (zL 64) (by rfl) W
  have FT := fun W h => fits_blank R W h
  rw [show valN ((List.drop 12 (zL 64)).take 2) = 0 from rfl] at BH
  rw [show valN ((List.drop 14 (zL 64)).take 2) = 0 from rfl] at SZ
  unfold secV at BH SZ FT
  rw [hC] at BH SZ FT
  obtain ⟨WA, hWA⟩ : ∃ WA, w.alloc (.cells zSec 120) = WA := ⟨_, rfl⟩
  have nA : WA.heap[w.heap.size]? = some (.cells zSec.toList.toArray 120 (0, 0)) := by rw [← hWA]; exact heap_alloc_new _ _
  have bA : Below w.heap.size w WA := by rw [← hWA]; exact (Below.refl _ _).alloc (Nat.le_refl _) _
  have HP := Lib.hid (And.intro (hp.below bA) hR)
  have HB := Lib.hid BH
  have HS := Lib.hid SZ
  have HF := Lib.hid FT
  have HA := Lib.hid (And.intro nA bA)
  have HZ := Lib.hid hzs
  clear BH SZ FT nA bA hR hp hi hsz hC hzs
  go_enter Try.func64, Try.ntmps64
  go_wp2_with (refine wpList_copy_splice rfl (.tmp 7) (.tmp 8) 33 33 rfl 5 Try.underlying33 (by kernel_rfl) (some ⟨w.heap.size, 0, none⟩) (some ⟨b, off, none⟩) 64 64 64 c rfl rfl w.heap.size 0 zSec.toList 120 HA.out.1 (bytesV (ofL (zL 64))) (by rw [bytesV_length, ofL_size]; rfl) (fun _ => ⟨rfl, _, rfl, fun j v hv => cells_at HP.out.1 j v hv⟩) (by rw [bytesV_length, ofL_size]; decide) (bytesV_one _) w.heap.size WA (Below.refl _ _) (Nat.le_refl _) ?_)
  intro W1 hw1 hb1
  have hr1 := hw1.out
  have hspl : (splice zSec.toList 0 (bytesV (ofL (zL 64)))).toArray = C := by
    rw [splice_whole _ _ (by rw [bytesV_length, ofL_size]; rfl)]
    exact HHC.out
  rw [hspl] at hr1
  have R1 : W1.heap[R]? = some (.cells #[.int .i64 1, .slice none 0 0, .int .i64 0, .slice none 0 0, .int .i64 0, .int .i64 0] 115 (0, 0)) := (hb1.block R (obj_lt HP.out.2)).trans ((HA.out.2.block R (obj_lt HP.out.2)).trans HP.out.2)
  have c5 : W1.cell? ⟨R, 5, none⟩ = some (.int .i64 0) := by rw [cell_of_row _ _ _ _ _ _ R1]; rfl
  have bw1 : Below w.heap.size w W1 := HA.out.2.trans hb1
  have H1 := Lib.hid (And.intro hr1 (And.intro R1 (And.intro bw1 c5)))
  clear hw1 hb1 hr1 hspl R1 c5 bw1 hWA hz
  go_wp2_with (refine wpList_load_row rfl 120 _ rfl w.heap.size rfl 120 C (0, 0) _ H1.out.1 Try.underlying120 rfl HI.out ?_)
  refine (HF.out W1 H1.out.2.2.2).mono ?_
  rintro e W2 ⟨rfl, b2⟩
  have n2 := (b2.block _ (obj_lt H1.out.1)).trans H1.out.1
  have r2 := (b2.block _ (obj_lt H1.out.2.1)).trans H1.out.2.1
  have H2 := Lib.hid (And.intro n2 (And.intro r2 (H1.out.2.2.1.trans (b2.mono H1.out.2.2.1.size))))
  clear n2 r2 b2
  go_wp2_with (refine wpList_load_row rfl 120 _ rfl w.heap.size rfl 120 C (0, 0) _ H2.out.1 Try.underlying120 rfl HI.out ?_)
  refine (HS.out W2).mono ?_
  rintro e W3 ⟨rfl, b3⟩
  have n3 := (b3.block _ (obj_lt H2.out.1)).trans H2.out.1
  have r3 := (b3.block _ (obj_lt H2.out.2.1)).trans H2.out.2.1
  have q0 : W3.cell? ⟨R, 0, none⟩ = some (.int .i64 1) := by rw [cell_of_row _ _ _ _ _ _ r3]; rfl
  have q1 : W3.cell? ⟨R, 1, none⟩ = some (.slice none 0 0) := by rw [cell_of_row _ _ _ _ _ _ r3]; rfl
  have q4 : W3.cell? ⟨R, 4, none⟩ = some (.int .i64 0) := by rw [cell_of_row _ _ _ _ _ _ r3]; rfl
  have H3 := Lib.hid (And.intro n3 (And.intro (And.intro q0 (And.intro q1 q4)) (H2.out.2.2.trans (b3.mono H2.out.2.2.size))))
  clear n3 r3 b3 q0 q1 q4
  go_wp2_with (fail)
  refine wp_region_held_drew (S := fun W => W.heap[w.heap.size]? = some (.cells C 120 (0, 0)) ∧ W.cell? ⟨R, 0, none⟩ = some (.int .i64 1) ∧ W.cell? ⟨R, 1, none⟩ = some (.slice none 0 0) ∧ W.cell? ⟨R, 4, none⟩ = some (.int .i64 0)) (by kernel_rfl) ⟨H3.out.1, H3.out.2.1⟩ (fun hHeld => ?_)
  have SX : ∀ W, Below W3.heap.size W3 W → W.heap[w.heap.size]? = some (.cells C 120 (0, 0)) ∧ W.cell? ⟨R, 0, none⟩ = some (.int .i64 1) ∧ W.cell? ⟨R, 1, none⟩ = some (.slice none 0 0) ∧ W.cell? ⟨R, 4, none⟩ = some (.int .i64 0) := fun W hb => ⟨(hb.block _ (obj_lt H3.out.1)).trans H3.out.1, hb_cell hb H3.out.2.1.1, hb_cell hb H3.out.2.1.2.1, hb_cell hb H3.out.2.1.2.2⟩
  have HSX := Lib.hid SX
  clear SX
  have b0 : Below W3.heap.size W3 W3.drew := (Below.refl _ _).drew
  refine wpAnyH_take (i := 0) (oi := _) (v := .agg C) rfl (by kernel_rfl) (by kernel_rfl) (by kernel_rfl) (fun _ _ _ h => h) (Or.inl ⟨by rfl, ?hyc0⟩) (by assumption) ?restc0
  case hyc0 =>
    intro W hSw
    skip
    exact exec_load_row 120 _ rfl w.heap.size (by rfl) 120 C (0, 0) _ hSw.1 Try.underlying120 rfl HI.out
  try simp only [Act.put, List.getElem_toArray, List.getElem_cons_zero, List.getElem_cons_succ, List.setIfInBounds_toArray, List.set_cons_zero, List.set_cons_succ]
  refine wpAnyH_take (i := 1) (oi := _) (v := ?vc1) rfl (by kernel_rfl) (by kernel_rfl) (by kernel_rfl) (fun _ _ _ h => h) (Or.inl ⟨by rfl, ?hyc1⟩) (by assumption) ?restc1
  case hyc1 =>
    intro W hSw
    clear hSw
    go_simp
    try (with_reducible rfl)
  try simp only [Act.put, List.getElem_toArray, List.getElem_cons_zero, List.getElem_cons_succ, List.setIfInBounds_toArray, List.set_cons_zero, List.set_cons_succ]
  refine wpAnyH_take (i := 2) (oi := _) (v := ?vc2) rfl (by kernel_rfl) (by kernel_rfl) (by kernel_rfl) (fun _ _ _ h => h) (Or.inl ⟨by rfl, ?hyc2⟩) (by assumption) ?restc2
  case hyc2 =>
    intro W hSw
    clear hSw
    go_simp
    try (with_reducible rfl)
  try simp only [Act.put, List.getElem_toArray, List.getElem_cons_zero, List.getElem_cons_succ, List.setIfInBounds_toArray, List.set_cons_zero, List.set_cons_succ]
  refine wpAnyH_take (i := 3) (oi := _) (v := ?vc3) rfl (by kernel_rfl) (by kernel_rfl) (by kernel_rfl) (fun _ _ _ h => h) (Or.inl ⟨by rfl, ?hyc3⟩) (by assumption) ?restc3
  case hyc3 =>
    intro W hSw
    clear hSw
    go_simp
    try (with_reducible rfl)
  try simp only [Act.put, List.getElem_toArray, List.getElem_cons_zero, List.getElem_cons_succ, List.setIfInBounds_toArray, List.set_cons_zero, List.set_cons_succ]
  refine wpAnyH_take (i := 4) (oi := _) (v := ?vc4) rfl (by kernel_rfl) (by kernel_rfl) (by kernel_rfl) (fun _ _ _ h => h) (Or.inl ⟨by rfl, ?hyc4⟩) (by assumption) ?restc4
  case hyc4 =>
    intro W hSw
    obtain ⟨e0, e1, e2, e3⟩ := hSw
    go_simp
    try (with_reducible rfl)
  try simp only [Act.put, List.getElem_toArray, List.getElem_cons_zero, List.getElem_cons_succ, List.setIfInBounds_toArray, List.set_cons_zero, List.set_cons_succ]
  refine wpAnyH_take (i := 5) (oi := _) (v := ?vc5) rfl (by kernel_rfl) (by kernel_rfl) (by kernel_rfl) (fun _ _ _ h => h) (Or.inl ⟨by rfl, ?hyc5⟩) (by assumption) ?restc5
  case hyc5 =>
    intro W hSw
    clear hSw
    go_simp
    try (with_reducible rfl)
  try simp only [Act.put, List.getElem_toArray, List.getElem_cons_zero, List.getElem_cons_succ, List.setIfInBounds_toArray, List.set_cons_zero, List.set_cons_succ]
  refine wpAnyH_take (i := 6) (oi := _) (v := ?vc6) rfl (by kernel_rfl) (by kernel_rfl) (by kernel_rfl) (fun _ _ _ h => h) (Or.inl ⟨by rfl, ?hyc6⟩) (by assumption) ?restc6
  case hyc6 =>
    intro W hSw
    clear hSw
    go_simp
    try (with_reducible rfl)
  try simp only [Act.put, List.getElem_toArray, List.getElem_cons_zero, List.getElem_cons_succ, List.setIfInBounds_toArray, List.set_cons_zero, List.set_cons_succ]
  refine wpAnyH_take (i := 7) (oi := _) (v := ?vc7) rfl (by kernel_rfl) (by kernel_rfl) (by kernel_rfl) (fun _ _ _ h => h) (Or.inl ⟨by rfl, ?hyc7⟩) (by assumption) ?restc7
  case hyc7 =>
    intro W hSw
    clear hSw
    go_simp
    try (with_reducible rfl)
  try simp only [Act.put, List.getElem_toArray, List.getElem_cons_zero, List.getElem_cons_succ, List.setIfInBounds_toArray, List.set_cons_zero, List.set_cons_succ]
  refine wpAnyH_take (i := 8) (oi := _) (v := ?vc8) rfl (by kernel_rfl) (by kernel_rfl) (by kernel_rfl) (fun _ _ _ h => h) (Or.inl ⟨by rfl, ?hyc8⟩) (by assumption) ?restc8
  case hyc8 =>
    intro W hSw
    obtain ⟨e0, e1, e2, e3⟩ := hSw
    go_simp
    try (with_reducible rfl)
  try simp only [Act.put, List.getElem_toArray, List.getElem_cons_zero, List.getElem_cons_succ, List.setIfInBounds_toArray, List.set_cons_zero, List.set_cons_succ]
  refine wpAnyH_take (i := 9) (oi := _) (v := ?vc9) rfl (by kernel_rfl) (by kernel_rfl) (by kernel_rfl) (fun _ _ _ h => h) (Or.inl ⟨by rfl, ?hyc9⟩) (by assumption) ?restc9
  case hyc9 =>
    intro W hSw
    clear hSw
    go_simp
    try (with_reducible rfl)
  try simp only [Act.put, List.getElem_toArray, List.getElem_cons_zero, List.getElem_cons_succ, List.setIfInBounds_toArray, List.set_cons_zero, List.set_cons_succ]
  refine wpAnyH_take (i := 10) (oi := _) (v := ?vc10) rfl (by kernel_rfl) (by kernel_rfl) (by kernel_rfl) (fun _ _ _ h => h) (Or.inl ⟨by rfl, ?hyc10⟩) (by assumption) ?restc10
  case hyc10 =>
    intro W hSw
    clear hSw
    go_simp
    try (with_reducible rfl)
  try simp only [Act.put, List.getElem_toArray, List.getElem_cons_zero, List.getElem_cons_succ, List.setIfInBounds_toArray, List.set_cons_zero, List.set_cons_succ]
  refine wpAnyH_take (i := 11) (oi := _) (v := ?vc11) rfl (by kernel_rfl) (by kernel_rfl) (by kernel_rfl) (fun _ _ _ h => h) (Or.inl ⟨by rfl, ?hyc11⟩) (by assumption) ?restc11
  case hyc11 =>
    intro W hSw
    clear hSw
    go_simp
    try (with_reducible rfl)
  try simp only [Act.put, List.getElem_toArray, List.getElem_cons_zero, List.getElem_cons_succ, List.setIfInBounds_toArray, List.set_cons_zero, List.set_cons_succ]
  refine wpAnyH_take (i := 12) (oi := _) (v := ?vc12) rfl (by kernel_rfl) (by kernel_rfl) (by kernel_rfl) (fun _ _ _ h => h) (Or.inl ⟨by rfl, ?hyc12⟩) (by assumption) ?restc12
  case hyc12 =>
    intro W hSw
    obtain ⟨e0, e1, e2, e3⟩ := hSw
    go_simp
    try (with_reducible rfl)
  try simp only [Act.put, List.getElem_toArray, List.getElem_cons_zero, List.getElem_cons_succ, List.setIfInBounds_toArray, List.set_cons_zero, List.set_cons_succ]
  refine wpAnyH_take (i := 13) (oi := _) (v := ?vc13) rfl (by kernel_rfl) (by kernel_rfl) (by kernel_rfl) (fun _ _ _ h => h) (Or.inl ⟨by rfl, ?hyc13⟩) (by assumption) ?restc13
  case hyc13 =>
    intro W hSw
    clear hSw
    go_simp
    try (with_reducible rfl)
  try simp only [Act.put, List.getElem_toArray, List.getElem_cons_zero, List.getElem_cons_succ, List.setIfInBounds_toArray, List.set_cons_zero, List.set_cons_succ]
  refine wpAnyH_take (i := 14) (oi := _) (v := .agg C) rfl (by kernel_rfl) (by kernel_rfl) (by kernel_rfl) (fun _ _ _ h => h) (Or.inl ⟨by rfl, ?hyc14⟩) (by assumption) ?restc14
  case hyc14 =>
    intro W hSw
    skip
    exact exec_load_row 120 _ rfl w.heap.size (by rfl) 120 C (0, 0) _ hSw.1 Try.underlying120 rfl HI.out
  try simp only [Act.put, List.getElem_toArray, List.getElem_cons_zero, List.getElem_cons_succ, List.setIfInBounds_toArray, List.set_cons_zero, List.set_cons_succ]
  refine wpAnyH_take (i := 17) (oi := _) (v := ?vc17) rfl (by kernel_rfl) (by kernel_rfl) (by kernel_rfl) (fun _ _ _ h => h) (Or.inl ⟨by rfl, ?hyc17⟩) (by assumption) ?restc17
  case hyc17 =>
    intro W hSw
    clear hSw
    go_simp
    try (with_reducible rfl)
  try simp only [Act.put, List.getElem_toArray, List.getElem_cons_zero, List.getElem_cons_succ, List.setIfInBounds_toArray, List.set_cons_zero, List.set_cons_succ]
  obtain ⟨Y0, hY0⟩ : ∃ X, X = W3.drew := ⟨_, rfl⟩
  rw [← hY0] at b0 hHeld ⊢
  clear hY0
  refine wpAnyH_ready (rs := [15]) (by kernel_rfl) (by simp) ?_
  refine AllReadyH.cons (o := _) rfl (fun K hK => ?_) AllReadyH.nil
  go_simp
  go_at_call 87
  refine (HB.out Y0).mono ?_
  rintro e Y1 ⟨rfl, hb1⟩
  have b1 := below_cat b0 hb1
  refine hK.out _ _ (HSX.out _ b1) (fun hHeld1 => ?_)
  clear hK K
  try simp only [Act.put, List.getElem_toArray, List.getElem_cons_zero, List.getElem_cons_succ, List.setIfInBounds_toArray, List.set_cons_zero, List.set_cons_succ]
  refine wpAnyH_take (i := 16) (oi := _) (v := ?vc16) rfl (by kernel_rfl) (by kernel_rfl) (by kernel_rfl) (fun _ _ _ h => h) (Or.inl ⟨by rfl, ?hyc16⟩) (HSX.out _ b1) ?restc16
  case hyc16 =>
    intro W hSw
    clear hSw
    go_simp
    try (with_reducible rfl)
  try simp only [Act.put, List.getElem_toArray, List.getElem_cons_zero, List.getElem_cons_succ, List.setIfInBounds_toArray, List.set_cons_zero, List.set_cons_succ]
  refine wpAnyH_ready (rs := [18]) (by kernel_rfl) (by simp) ?_
  refine AllReadyH.cons (o := _) rfl (fun K hK => ?_) AllReadyH.nil
  go_simp
  go_at_call 67
  have LY : Calls Try.prog 67 #[.agg #[.int .i64 1, .int .i64 0, .int .i64 0, .int .i64 0], .slice (some ⟨w.heap.size, 16, none⟩) 0 48] Y1 fun e w' => e = .returned (.agg (bytesV (ofL (sectorL 1 0 0 0 []))).toArray) ∧ Below Y1.heap.size Y1 w' := tlay_ok 1 0 0 0 (by decide) (by decide) (by decide) (by decide) (some ⟨w.heap.size, 16, none⟩) ⟨#[]⟩ 0 48 rfl (by decide) (fun e => by cases e) Y1 (fun h0 => absurd h0 (by decide))
  refine LY.mono ?_
  rintro e Y2 ⟨rfl, hb2⟩
  have b2 := below_cat b1 hb2
  refine hK.out _ _ (HSX.out _ b2) (fun hHeld2 => ?_)
  clear hK K LY
  try simp only [Act.put, List.getElem_toArray, List.getElem_cons_zero, List.getElem_cons_succ, List.setIfInBounds_toArray, List.set_cons_zero, List.set_cons_succ]
  refine wpAnyH_take (i := 19) (oi := _) (v := .bool (!(zL 64 == sectorL 1 0 0 0 []))) rfl (by kernel_rfl) (by kernel_rfl) (by kernel_rfl) (fun _ _ _ h => h) (Or.inl ⟨by rfl, ?hyc19⟩) (HSX.out _ b2) ?restc19
  case hyc19 =>
    intro W hSw
    clear hSw
    exact exec_neq_bytes 120 5 _ 64 _ _ rfl (zL 64) (sectorL 1 0 0 0 []) (by rw [HHC.out]; rfl) (by rfl) (by kernel_rfl) Try.underlying120 Try.underlying5 size_byte (by rfl) (sectorL_length _ _ _ _ _ (by decide))
  try simp only [Act.put, List.getElem_toArray, List.getElem_cons_zero, List.getElem_cons_succ, List.setIfInBounds_toArray, List.set_cons_zero, List.set_cons_succ]
  refine wpAnyH_done (by kernel_rfl) ?_ _
  rw [blank_not_laid]
  have HE := Lib.hid (show Below w.heap.size w Y2 from H3.out.2.2.trans (b2.mono H3.out.2.2.size))
  clear hHeld hHeld1 hHeld2 b0 b1 b2 hb1 hb2
  go_wp2_with (fail)
  go_ret
  exact ⟨rfl, HE.out⟩
end Go.Proofs.Ytphcifejdggeoaa
