/- Proved here: the answers that every statement of tape asks first. -/
import Derived.Test.YtphcifejdggeoaaTapeNone
namespace Go.Proofs.Ytphcifejdggeoaa
open Go.RowKit

theorem wpList_conv_eq {P : Program} {w : World} {ops : Array Oper} {rest : List Oper} {o : Oper} {a : Act} {Q : Exit → Act → World → Prop} (hgd : o.guard = none) (s t : TypeId) (x : Operand)
    (ho : o.op = .convert s t x) (v v' : Value) (w' : World) (hs : a.eval x = v) (hrun : (convert s t v).run P w = .ok v' w') (h : wpList P ops Q rest (a.put o.dst v') w') : wpList P ops Q (o :: rest) a w :=
  wpList_plain hgd fun _ hK => wp_conv_eq s t x ho v v' w' hs hrun (hK _ _ h)
def nineL : List UInt8 := [49, 50, 51, 52, 53, 54, 55, 56, 57]
theorem nine_cells : (#[.int .u8 49, .int .u8 50, .int .u8 51, .int .u8 52, .int .u8 53, .int .u8 54, .int .u8 55, .int .u8 56, .int .u8 57] : Array Value) = (bytesV (ofL nineL)).toArray := by rw [bytesV_ofL]; rfl
theorem nine_holds {W : World} {a : Nat} {T : TypeId} {fr : Nat × Nat} (h : W.heap[a]? = some (.cells #[.int .u8 49, .int .u8 50, .int .u8 51, .int .u8 52, .int .u8 53, .int .u8 54, .int .u8 55, .int .u8 56, .int .u8 57] T fr)) : HoldsB W (some ⟨a, 0, none⟩) (ofL nineL) := fun _ => ⟨a, 0, rfl, fun j hj => by
  have h2 := bl_get (ofL nineL) j hj
  rw [bl_ofL] at h2
  rw [cell_of_row _ _ _ _ _ _ h, nine_cells, List.getElem?_toArray, bytesV_ofL, Nat.zero_add, List.getElem?_map, h2]
  rfl⟩
set_option maxRecDepth 100000 in
set_option maxHeartbeats 8000000 in
theorem awake14_any (w : World) : Calls Try.prog 17 #[] w fun e w' => e = .returned (.bool true) ∧ Below w.heap.size w w' := by
  have NW := Lib.hid (new_ok 4 (by decide) (by decide) w)
  go_enter Try.func17, Try.ntmps17
  go_wp2_with (fail)
  refine NW.out.mono ?_
  rintro e W1 ⟨G, F1, rfl, hd, hb, hF⟩
  have D1 := Lib.hid (DW.mk hd hb hF)
  clear hd hb hF NW
  go_wp2_with (fail)
  refine (open_new D1.out).mono ?_
  rintro e W2 ⟨t, rfl, d2, n2, f2, ht0⟩
  have HT := Lib.hid ht0
  clear ht0
  obtain ⟨w3, hmk, ho, hb3⟩ := make_full W2 49 (by decide)
  have hmk' : (Instr.makeSlice 33 (.int .i64 49) (.int .i64 49)).run Try.prog W2 = .ok (.slice (some ⟨W2.heap.size, 0, none⟩) 49 49) w3 := hmk
  have H2 := Lib.hid (And.intro d2 (And.intro n2 (And.intro f2 (And.intro ho hb3))))
  clear d2 n2 f2 ho hb3 hmk
  go_wp2_with (fail)
  have d3 := H2.out.1.on H2.out.2.2.2.2
  have n3 := (H2.out.2.2.2.2.block _ (obj_lt H2.out.2.1)).trans H2.out.2.1
  have hS : Still (newM 4).step := ⟨by rfl, by rfl⟩
  have hM := laid_still hS 0 0 1 0 (countS 49) (bl (ofL (zL 49))) (countS 49)
  have A1 := append_ok d3 hS (by decide) (by decide) t 0 4 1 0 0 n3 H2.out.2.2.1 HT.out (by decide) (by decide) (by decide) (by decide) W2.heap.size 0 49 49 (ofL (zL 49)) (by rw [ofL_size]; rfl) (by decide) (by decide) (by decide) H2.out.2.2.2.1.holds (H2.out.1.new (Nat.le_refl _)) H2.out.2.2.2.1.2.2.1 (by decide)
  have HA1 := Lib.hid A1
  have HM := Lib.hid hM
  clear A1 d3 n3 hS hM hmk'
  go_wp2_with (fail)
  refine HA1.out.mono ?_
  rintro e W4 ⟨rfl, F4, d4, n4, f4⟩
  go_wp2_with (fail)
  refine (append_none d4 HM.out.1 (by rw [HM.out.2.1]; decide) (by rw [HM.out.2.2]; decide) t 0 4 1 (0 + 1) (0 + countS 49) n4 f4 HT.out (by decide) (by decide) (by decide) (by decide) (by decide)).mono ?_
  rintro e W5 ⟨rfl, F5, d5, n5, f5⟩
  obtain ⟨W6, hW6⟩ : ∃ W6, W5.alloc (.cells #[.int .u8 49, .int .u8 50, .int .u8 51, .int .u8 52, .int .u8 53, .int .u8 54, .int .u8 55, .int .u8 56, .int .u8 57] 5) = W6 := ⟨_, rfl⟩
  have n6 : W6.heap[W5.heap.size]? = some (.cells #[.int .u8 49, .int .u8 50, .int .u8 51, .int .u8 52, .int .u8 53, .int .u8 54, .int .u8 55, .int .u8 56, .int .u8 57] 5 (0, 0)) := by rw [← hW6]; exact heap_alloc_new _ _
  have b56 : Below W5.heap.size W5 W6 := by rw [← hW6]; exact (Below.refl _ _).alloc (Nat.le_refl _) _
  have m6 : W6.heap[t]? = some (.cells (tapeV G 0 4 1 2 3 false) 118 (0, 0)) := (b56.block _ (obj_lt n5)).trans n5
  have htne : t ≠ W5.heap.size := by have := obj_lt n5; omega
  obtain ⟨W7, hrun, n7, o7, s7, os7, tp7, rest7⟩ := conv_late (n := 9) (c := 9) n6
  have m7 : W7.heap[t]? = some (.cells (tapeV G 0 4 1 2 3 false) 118 (0, 0)) := (o7 t htne).trans m6
  have FR : Calls Try.prog 29 #[.pointer (some ⟨t, 0, none⟩)] W7 fun e W' => e = .returned (.int .i64 1) ∧ ∃ m, W' = W7.drewN m := free_any W7 t G 0 4 1 2 3 false m7 (by decide) (by decide)
  have SM := sum_any (some ⟨W5.heap.size, 0, none⟩) (ofL nineL) 9 9 W7 (by rw [ofL_size]; rfl) (by decide) (nine_holds n7)
  rw [bl_ofL, show sumN nineL = 3421780262 from sum_nine] at SM
  have hb7 : Below w.heap.size w W7 := (d5.below.trans (b56.mono d5.below.size)).trans ⟨os7, tp7, by first | exact rest7 | exact rest7.1, by rw [s7]; exact Nat.le_refl _, fun k hk => o7 k (by have := d5.below.size; omega)⟩
  have H7 := Lib.hid (And.intro FR (And.intro SM (And.intro m7 hb7)))
  have HW6 := Lib.hid hW6
  have HRUN := Lib.hid hrun
  clear d4 n4 f4 d5 n5 f5 hW6 n6 b56 m6 htne hrun n7 o7 s7 os7 tp7 rest7 m7 FR SM hb7
  go_wp2_with (rw [HW6.out]; refine wpList_conv_eq rfl 33 33 _ rfl _ _ W7 rfl HRUN.out ?_)
  refine H7.out.2.1.mono ?_
  rintro e W' ⟨rfl, rfl⟩
  go_wp2_with (fail)
  refine H7.out.1.mono ?_
  rintro e W8 ⟨rfl, m, rfl⟩
  have m8 : (W7.drewN m).heap[t]? = some (.cells (tapeV G 0 4 1 2 3 false) 118 (0, 0)) := ((below_drewN (Below.refl _ W7) m).block t (obj_lt H7.out.2.2.1)).trans H7.out.2.2.1
  obtain ⟨w9, hmk9, ho9, hb9⟩ := make_full (W7.drewN m) 49 (by decide)
  have hmk9' : (Instr.makeSlice 33 (.int .i64 49) (.int .i64 49)).run Try.prog (W7.drewN m) = .ok (.slice (some ⟨(W7.drewN m).heap.size, 0, none⟩) 49 49) w9 := hmk9
  have m9 := (hb9.block t (obj_lt m8)).trans m8
  have GR := groups_any (W7.drewN m) t G 0 4 1 2 3 false m8
  have AF := append_full w9 t G 0 4 1 2 3 m9 (by decide) (by decide) (some ⟨(W7.drewN m).heap.size, 0, none⟩) 49 49 (by decide) (by decide)
  have b9 : Below w.heap.size w w9 := (below_drewN H7.out.2.2.2 m).trans (hb9.mono (below_drewN H7.out.2.2.2 m).size)
  have H9 := Lib.hid (And.intro GR (And.intro AF b9))
  clear m8 hmk9 ho9 hb9 m9 GR AF b9
  go_wp2_with (fail)
  refine H9.out.1.mono ?_
  rintro e W' ⟨rfl, rfl⟩
  go_wp2_with (fail)
  refine H9.out.2.1.mono ?_
  rintro e W' ⟨rfl, m2, rfl⟩
  go_wp2_with (fail)
  go_ret
  exact ⟨rfl, below_drewN H9.out.2.2 m2⟩
end Go.Proofs.Ytphcifejdggeoaa
