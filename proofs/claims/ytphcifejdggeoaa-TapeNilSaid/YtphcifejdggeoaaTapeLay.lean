/- Proved here: what the program's sector of a tape is. -/
import Derived.Test.YtphcifejdggeoaaHeadKit
import Derived.Laws.Tables
import Derived.Deep.WholeRow
namespace Go.Proofs.Ytphcifejdggeoaa
open Go.RowKit

def zSec : Array Value := (List.replicate 64 (Value.int .u8 0)).toArray
theorem infoSec : (Try.prog.info? 120).map (fun i => (i.zero, i.size)) = some (some (.agg zSec), 64) := by kernel_rfl
def markL (gen place group behind : Nat) (l : List UInt8) : List UInt8 := numL gen 4 ++ (numL place 2 ++ (numL group 2 ++ (numL behind 2 ++ (numL l.length 2 ++ l))))
/-- A tape's sector. -/
def sectorL (gen place group behind : Nat) (l : List UInt8) : List UInt8 := sealL (fillL (markL gen place group behind l) 60)
theorem markL_length (gen place group behind : Nat) (l : List UInt8) : (markL gen place group behind l).length = 12 + l.length := by
  unfold markL
  simp only [List.length_append, numL_length]
  omega
theorem sectorL_length (gen place group behind : Nat) (l : List UInt8) (h : l.length ≤ 48) : (sectorL gen place group behind l).length = 64 := by
  unfold sectorL
  rw [sealL_length, fillL_length (by rw [markL_length]; omega)]
set_option maxHeartbeats 1000000 in
theorem obj_lt {W : World} {g : Nat} {o : Obj} (h : W.heap[g]? = some o) : g < W.heap.size := by
  by_cases hl : g < W.heap.size
  · exact hl
  · rw [Array.getElem?_eq_none (by omega)] at h
    cases h
theorem info64 : (Try.prog.info? 120).map (·.size) = some 64 := by kernel_rfl
theorem two_any (v : Nat) (hv : v < 9223372036854775808) (w : World) :
    Calls Try.prog 90 #[.int .i64 (v : Int)] w fun e w' => ∃ r, e = .returned r ∧ NewB (numL v 2) w r w' := by
  have OC := Lib.hid (octets_any v 2 w (by omega) (by decide))
  have hwr : IntKind.u64.wrap (v : Int) = (v : Int) := by rw [IntKind.wrap_u64]; omega
  clear hv
  go_enter Try.func90, Try.ntmps90
  go_wp2_with (fail)
  refine OC.out.mono ?_
  rintro e W1 ⟨r, rfl, hr⟩
  have HR := Lib.hid hr
  clear hr OC
  go_wp2_with (fail)
  go_ret
  exact ⟨_, rfl, HR.out⟩
theorem made_six (v : Value) (hv : v.cells = #[v]) : madeCells v.cells (6 * 1) = #[v, v, v, v, v, v] := by
  rw [hv]
  apply Array.ext_getElem?
  intro i
  unfold madeCells
  by_cases h : i < 6
  · rw [Array.getElem?_map, Array.getElem?_range, if_pos (by omega)]
    have : i = 0 ∨ i = 1 ∨ i = 2 ∨ i = 3 ∨ i = 4 ∨ i = 5 := by omega
    rcases this with rfl | rfl | rfl | rfl | rfl | rfl <;> simp
  · rw [Array.getElem?_eq_none (by simp; omega), Array.getElem?_eq_none (by simp; omega)]
theorem fill_six (p1 p2 p3 p4 p5 p6 : Option Addr) (a1 a2 a3 a4 a5 a6 c1 c2 c3 c4 c5 c6 : Nat) : Instr.fill (fun i => some (i * 1, 1)) (madeCells (Value.slice none 0 0).cells (6 * 1)) [(0, .slice p1 a1 c1), (1, .slice p2 a2 c2), (2, .slice p3 a3 c3), (3, .slice p4 a4 c4), (4, .slice p5 a5 c5), (5, .slice p6 a6 c6)] = some #[.slice p1 a1 c1, .slice p2 a2 c2, .slice p3 a3 c3, .slice p4 a4 c4, .slice p5 a5 c5, .slice p6 a6 c6] := by
  rw [made_six _ rfl]
  simp [Instr.fill, Value.cells]
theorem tape_cat {gen place group behind n g1 g2 g3 g4 g5 c1 c2 c3 c4 c5 c : Nat} {p : Option Addr} {s : ByteArray} (P : World) (hn : s.size = n) (hs : n ≤ 48) (h1 : HoldsB P (some ⟨g1, 0, none⟩) (ofL (numL gen 4))) (h2 : HoldsB P (some ⟨g2, 0, none⟩) (ofL (numL place 2))) (h3 : HoldsB P (some ⟨g3, 0, none⟩) (ofL (numL group 2))) (h4 : HoldsB P (some ⟨g4, 0, none⟩) (ofL (numL behind 2))) (h5 : HoldsB P (some ⟨g5, 0, none⟩) (ofL (numL n 2))) (h6 : HoldsB P p s) (hnil : p = none → c = 0) :
    Calls Try.prog 88 #[.slice (some ⟨P.heap.size, 0, none⟩) 6 6] (P.alloc (.cells #[.slice (some ⟨g1, 0, none⟩) 4 c1, .slice (some ⟨g2, 0, none⟩) 2 c2, .slice (some ⟨g3, 0, none⟩) 2 c3, .slice (some ⟨g4, 0, none⟩) 2 c4, .slice (some ⟨g5, 0, none⟩) 2 c5, .slice p n c] 33)) fun e w' => ∃ r, e = .returned r ∧ NewB (markL gen place group behind (bl s)) P r w' := by
  have hcat : catP [(some ⟨g1, 0, none⟩, c1, ofL (numL gen 4)), (some ⟨g2, 0, none⟩, c2, ofL (numL place 2)), (some ⟨g3, 0, none⟩, c3, ofL (numL group 2)), (some ⟨g4, 0, none⟩, c4, ofL (numL behind 2)), (some ⟨g5, 0, none⟩, c5, ofL (numL n 2)), (p, c, s)] = markL gen place group behind (bl s) := by
    unfold catP markL
    simp only [List.flatMap_cons, List.flatMap_nil, List.append_nil, bl_ofL]
    rw [bl_length, hn]
  have hz : (markL gen place group behind (bl s)).length = 12 + n := by rw [markL_length, bl_length, hn]
  have CL := concat_lit [(some ⟨g1, 0, none⟩, c1, ofL (numL gen 4)), (some ⟨g2, 0, none⟩, c2, ofL (numL place 2)), (some ⟨g3, 0, none⟩, c3, ofL (numL group 2)), (some ⟨g4, 0, none⟩, c4, ofL (numL behind 2)), (some ⟨g5, 0, none⟩, c5, ofL (numL n 2)), (p, c, s)] P 6 rfl #[.slice (some ⟨g1, 0, none⟩) 4 c1, .slice (some ⟨g2, 0, none⟩) 2 c2, .slice (some ⟨g3, 0, none⟩) 2 c3, .slice (some ⟨g4, 0, none⟩) 2 c4, .slice (some ⟨g5, 0, none⟩) 2 c5, .slice p n c] 33 (0, 0) (by
      show _ = [Value.slice (some ⟨g1, 0, none⟩) (ofL (numL gen 4)).size c1, Value.slice (some ⟨g2, 0, none⟩) (ofL (numL place 2)).size c2, Value.slice (some ⟨g3, 0, none⟩) (ofL (numL group 2)).size c3, Value.slice (some ⟨g4, 0, none⟩) (ofL (numL behind 2)).size c4, Value.slice (some ⟨g5, 0, none⟩) (ofL (numL n 2)).size c5, Value.slice p s.size c]
      simp only [ofL_size, numL_length, hn]) (fun x hx => by
      simp only [List.mem_cons, List.not_mem_nil, or_false] at hx
      rcases hx with rfl | rfl | rfl | rfl | rfl | rfl
      · exact ⟨h1, fun e => by cases e⟩
      · exact ⟨h2, fun e => by cases e⟩
      · exact ⟨h3, fun e => by cases e⟩
      · exact ⟨h4, fun e => by cases e⟩
      · exact ⟨h5, fun e => by cases e⟩
      · exact ⟨h6, hnil⟩) (by rw [hcat, hz]; omega) (by rw [hcat, hz]; omega) (by show 6 ≤ 1024; decide)
  rw [hcat] at CL
  exact CL
theorem splice64 (cs : List UInt8) (h : cs.length ≤ 60) : splice zSec.toList 4 (bytesV (ofL cs)) = bytesV (ofL (zL 4 ++ fillL cs 60)) := by
  unfold splice zSec fillL zL
  rw [bytesV_ofL, bytesV_ofL]
  simp only [List.drop_replicate, List.take_replicate, List.map_append, List.map_replicate, List.length_map, List.append_assoc]
  rw [show min 4 64 = 4 from rfl, show 64 - (4 + cs.length) = 60 - cs.length by omega]
  rfl
theorem splice_sum (a b : List UInt8) (h : a.length = 4) : splice (bytesV (ofL (zL 4 ++ b))) 0 (bytesV (ofL a)) = bytesV (ofL (a ++ b)) := by
  unfold splice zL
  rw [bytesV_ofL, bytesV_ofL, bytesV_ofL]
  simp only [List.take_zero, List.nil_append, Nat.zero_add, List.length_map, h, List.map_append, List.map_replicate]
  rw [List.drop_left' List.length_replicate]
theorem row_part {W : World} {g : Nat} {a b : List UInt8} {T : TypeId} (h : W.heap[g]? = some (.cells (bytesV (ofL (a ++ b))).toArray T (0, 0))) (ha : a.length = 4) : HoldsB W (some ⟨g, 4, none⟩) (ofL b) := fun _ => ⟨g, 4, rfl, fun j hj => by
  rw [ofL_size] at hj
  rw [cell_of_row _ _ _ _ _ _ h, List.getElem?_toArray, bytesV_ofL]
  have h2 := bl_get (ofL b) j (by rw [ofL_size]; exact hj)
  rw [bl_ofL] at h2
  simp only [List.map_append]
  rw [List.getElem?_append_right (by rw [List.length_map]; omega), List.length_map, ha, Nat.add_sub_cancel_left, List.getElem?_map, h2]
  rfl⟩
set_option maxRecDepth 100000 in
set_option maxHeartbeats 16000000 in
theorem tlay_ok (gen place group behind : Nat) (x1 : gen < 9223372036854775808) (x2 : place < 9223372036854775808) (x3 : group < 9223372036854775808) (x4 : behind < 9223372036854775808) (p : Option Addr) (s : ByteArray) (n c : Nat) (hn : s.size = n) (hs : n ≤ 48) (hnil : p = none → c = 0) (w : World) (hp : HoldsB w p s) :
    Calls Try.prog 67 #[.agg #[.int .i64 (gen : Int), .int .i64 (place : Int), .int .i64 (group : Int), .int .i64 (behind : Int)], .slice p n c] w fun e w' => e = .returned (.agg (bytesV (ofL (sectorL gen place group behind (bl s)))).toArray) ∧ Below w.heap.size w w' := by
  obtain ⟨hz, hzs⟩ := zero_of_info infoSec
  obtain ⟨ir, hir, hir0, hir1, hir2⟩ := info_parts infoRow2
  have HIR := Lib.hid (And.intro hir (And.intro hir0 (And.intro hir1 hir2)))
  have HX := Lib.hid (And.intro x1 (And.intro x2 (And.intro x3 x4)))
  have HP := Lib.hid (And.intro hn (And.intro hs (And.intro hnil hp)))
  have hwr : IntKind.u64.wrap (gen : Int) = (gen : Int) := by rw [IntKind.wrap_u64]; omega
  obtain ⟨WA, hWA⟩ : ∃ WA, w.alloc (.cells #[.int .i64 (gen : Int), .int .i64 (place : Int), .int .i64 (group : Int), .int .i64 (behind : Int)] 123) = WA := ⟨_, rfl⟩
  have sA : WA.heap.size = w.heap.size + 1 := by rw [← hWA]; simp
  have nA : WA.heap[w.heap.size]? = some (.cells #[.int .i64 (gen : Int), .int .i64 (place : Int), .int .i64 (group : Int), .int .i64 (behind : Int)] 123 (0, 0)) := by rw [← hWA]; exact heap_alloc_new _ _
  have bA : Below w.heap.size w WA := by rw [← hWA]; exact (Below.refl _ _).alloc (Nat.le_refl _) _
  obtain ⟨WB, hWB⟩ : ∃ WB, WA.alloc (.cells zSec 120) = WB := ⟨_, rfl⟩
  have sB : WB.heap.size = w.heap.size + 2 := by rw [← hWB]; simp [sA]
  have nB : WB.heap[w.heap.size]? = some (.cells #[.int .i64 (gen : Int), .int .i64 (place : Int), .int .i64 (group : Int), .int .i64 (behind : Int)] 123 (0, 0)) := by rw [← hWB]; exact (Below.heap_alloc WA _ _ (by omega)).trans nA
  have rB : WB.heap[w.heap.size + 1]? = some (.cells zSec 120 (0, 0)) := by rw [← hWB, ← sA]; exact heap_alloc_new _ _
  have bB : Below w.heap.size w WB := by rw [← hWB]; exact bA.alloc bA.size _
  obtain ⟨W0, hW0⟩ : ∃ W0, WB.alloc (.cells zSec 120) = W0 := ⟨_, rfl⟩
  have s0 : W0.heap.size = w.heap.size + 3 := by rw [← hW0]; simp [sB]
  have n0 : W0.heap[w.heap.size]? = some (.cells #[.int .i64 (gen : Int), .int .i64 (place : Int), .int .i64 (group : Int), .int .i64 (behind : Int)] 123 (0, 0)) := by rw [← hW0]; exact (Below.heap_alloc WB _ _ (by omega)).trans nB
  have r0 : W0.heap[w.heap.size + 1]? = some (.cells zSec 120 (0, 0)) := by rw [← hW0]; exact (Below.heap_alloc WB _ _ (by omega)).trans rB
  have z0 : W0.heap[w.heap.size + 2]? = some (.cells zSec 120 (0, 0)) := by rw [← hW0, ← sB]; exact heap_alloc_new _ _
  have b0' : Below w.heap.size w W0 := by rw [← hW0]; exact bB.alloc bB.size _
  have c0 : W0.cell? ⟨w.heap.size, 0, none⟩ = some (.int .i64 (gen : Int)) := by rw [cell_of_row _ _ _ _ _ _ n0]; rfl
  have c1 : W0.cell? ⟨w.heap.size, 1, none⟩ = some (.int .i64 (place : Int)) := by rw [cell_of_row _ _ _ _ _ _ n0]; rfl
  have c2 : W0.cell? ⟨w.heap.size, 2, none⟩ = some (.int .i64 (group : Int)) := by rw [cell_of_row _ _ _ _ _ _ n0]; rfl
  have c3 : W0.cell? ⟨w.heap.size, 3, none⟩ = some (.int .i64 (behind : Int)) := by rw [cell_of_row _ _ _ _ _ _ n0]; rfl
  have H0 := Lib.hid (And.intro s0 (And.intro z0 (And.intro r0 (And.intro b0' (And.intro c0 (And.intro c1 (And.intro c2 c3)))))))
  have HZ := Lib.hid hzs
  have HSZ := Lib.hid (And.intro sA sB)
  clear sA nA bA sB nB rB bB s0 n0 r0 z0 b0' c0 c1 c2 c3 hir hir0 hir1 hir2 x1 x2 x3 x4 hn hs hnil hp hzs
  go_enter Try.func67, Try.ntmps67
  go_wp2_with (fail)
  rw [HSZ.out.1, HSZ.out.2]
  refine wp_region_held_drew (S := fun W => W.cell? ⟨w.heap.size, 0, none⟩ = some (.int .i64 (gen : Int)) ∧ W.cell? ⟨w.heap.size, 1, none⟩ = some (.int .i64 (place : Int)) ∧ W.cell? ⟨w.heap.size, 2, none⟩ = some (.int .i64 (group : Int)) ∧ W.cell? ⟨w.heap.size, 3, none⟩ = some (.int .i64 (behind : Int))) (by kernel_rfl) ⟨H0.out.2.2.2.2.1, H0.out.2.2.2.2.2.1, H0.out.2.2.2.2.2.2.1, H0.out.2.2.2.2.2.2.2⟩ (fun hHeld => ?_)
  have SX : ∀ W, Below W0.heap.size W0 W → W.cell? ⟨w.heap.size, 0, none⟩ = some (.int .i64 (gen : Int)) ∧ W.cell? ⟨w.heap.size, 1, none⟩ = some (.int .i64 (place : Int)) ∧ W.cell? ⟨w.heap.size, 2, none⟩ = some (.int .i64 (group : Int)) ∧ W.cell? ⟨w.heap.size, 3, none⟩ = some (.int .i64 (behind : Int)) := fun W hb => ⟨hb_cell hb H0.out.2.2.2.2.1, hb_cell hb H0.out.2.2.2.2.2.1, hb_cell hb H0.out.2.2.2.2.2.2.1, hb_cell hb H0.out.2.2.2.2.2.2.2⟩
  have HS := Lib.hid SX
  clear SX hWA hWB hW0
  have b0 : Below W0.heap.size W0 W0.drew := (Below.refl _ _).drew
  refine wpAnyH_take (i := 0) (oi := _) (v := ?va0) rfl (by kernel_rfl) (by kernel_rfl) (by kernel_rfl) (fun _ _ _ h => h) (Or.inl ⟨by rfl, ?hya0⟩) (by assumption) ?resta0
  case hya0 =>
    intro W hSw
    clear hSw
    go_simp
    try (with_reducible rfl)
  try simp only [Act.put, List.getElem_toArray, List.getElem_cons_zero, List.getElem_cons_succ, List.setIfInBounds_toArray, List.set_cons_zero, List.set_cons_succ]
  refine wpAnyH_take (i := 1) (oi := _) (v := ?va1) rfl (by kernel_rfl) (by kernel_rfl) (by kernel_rfl) (fun _ _ _ h => h) (Or.inl ⟨by rfl, ?hya1⟩) (by assumption) ?resta1
  case hya1 =>
    intro W hSw
    clear hSw
    go_simp
    try (with_reducible rfl)
  try simp only [Act.put, List.getElem_toArray, List.getElem_cons_zero, List.getElem_cons_succ, List.setIfInBounds_toArray, List.set_cons_zero, List.set_cons_succ]
  refine wpAnyH_take (i := 2) (oi := _) (v := ?va2) rfl (by kernel_rfl) (by kernel_rfl) (by kernel_rfl) (fun _ _ _ h => h) (Or.inl ⟨by rfl, ?hya2⟩) (by assumption) ?resta2
  case hya2 =>
    intro W hSw
    obtain ⟨e0, e1, e2, e3⟩ := hSw
    go_simp
    try (with_reducible rfl)
  try simp only [Act.put, List.getElem_toArray, List.getElem_cons_zero, List.getElem_cons_succ, List.setIfInBounds_toArray, List.set_cons_zero, List.set_cons_succ]
  refine wpAnyH_take (i := 3) (oi := _) (v := ?va3) rfl (by kernel_rfl) (by kernel_rfl) (by kernel_rfl) (fun _ _ _ h => h) (Or.inl ⟨by rfl, ?hya3⟩) (by assumption) ?resta3
  case hya3 =>
    intro W hSw
    clear hSw
    go_simp
    try (with_reducible rfl)
  try simp only [Act.put, List.getElem_toArray, List.getElem_cons_zero, List.getElem_cons_succ, List.setIfInBounds_toArray, List.set_cons_zero, List.set_cons_succ]
  refine wpAnyH_take (i := 5) (oi := _) (v := ?va5) rfl (by kernel_rfl) (by kernel_rfl) (by kernel_rfl) (fun _ _ _ h => h) (Or.inl ⟨by rfl, ?hya5⟩) (by assumption) ?resta5
  case hya5 =>
    intro W hSw
    clear hSw
    go_simp
    try (with_reducible rfl)
  try simp only [Act.put, List.getElem_toArray, List.getElem_cons_zero, List.getElem_cons_succ, List.setIfInBounds_toArray, List.set_cons_zero, List.set_cons_succ]
  refine wpAnyH_take (i := 6) (oi := _) (v := ?va6) rfl (by kernel_rfl) (by kernel_rfl) (by kernel_rfl) (fun _ _ _ h => h) (Or.inl ⟨by rfl, ?hya6⟩) (by assumption) ?resta6
  case hya6 =>
    intro W hSw
    obtain ⟨e0, e1, e2, e3⟩ := hSw
    go_simp
    try (with_reducible rfl)
  try simp only [Act.put, List.getElem_toArray, List.getElem_cons_zero, List.getElem_cons_succ, List.setIfInBounds_toArray, List.set_cons_zero, List.set_cons_succ]
  refine wpAnyH_take (i := 8) (oi := _) (v := ?va8) rfl (by kernel_rfl) (by kernel_rfl) (by kernel_rfl) (fun _ _ _ h => h) (Or.inl ⟨by rfl, ?hya8⟩) (by assumption) ?resta8
  case hya8 =>
    intro W hSw
    clear hSw
    go_simp
    try (with_reducible rfl)
  try simp only [Act.put, List.getElem_toArray, List.getElem_cons_zero, List.getElem_cons_succ, List.setIfInBounds_toArray, List.set_cons_zero, List.set_cons_succ]
  refine wpAnyH_take (i := 9) (oi := _) (v := ?va9) rfl (by kernel_rfl) (by kernel_rfl) (by kernel_rfl) (fun _ _ _ h => h) (Or.inl ⟨by rfl, ?hya9⟩) (by assumption) ?resta9
  case hya9 =>
    intro W hSw
    obtain ⟨e0, e1, e2, e3⟩ := hSw
    go_simp
    try (with_reducible rfl)
  try simp only [Act.put, List.getElem_toArray, List.getElem_cons_zero, List.getElem_cons_succ, List.setIfInBounds_toArray, List.set_cons_zero, List.set_cons_succ]
  refine wpAnyH_take (i := 11) (oi := _) (v := ?va11) rfl (by kernel_rfl) (by kernel_rfl) (by kernel_rfl) (fun _ _ _ h => h) (Or.inl ⟨by rfl, ?hya11⟩) (by assumption) ?resta11
  case hya11 =>
    intro W hSw
    clear hSw
    go_simp
    try (with_reducible rfl)
  try simp only [Act.put, List.getElem_toArray, List.getElem_cons_zero, List.getElem_cons_succ, List.setIfInBounds_toArray, List.set_cons_zero, List.set_cons_succ]
  refine wpAnyH_take (i := 12) (oi := _) (v := ?va12) rfl (by kernel_rfl) (by kernel_rfl) (by kernel_rfl) (fun _ _ _ h => h) (Or.inl ⟨by rfl, ?hya12⟩) (by assumption) ?resta12
  case hya12 =>
    intro W hSw
    obtain ⟨e0, e1, e2, e3⟩ := hSw
    go_simp
    try (with_reducible rfl)
  try simp only [Act.put, List.getElem_toArray, List.getElem_cons_zero, List.getElem_cons_succ, List.setIfInBounds_toArray, List.set_cons_zero, List.set_cons_succ]
  refine wpAnyH_take (i := 14) (oi := _) (v := ?va14) rfl (by kernel_rfl) (by kernel_rfl) (by kernel_rfl) (fun _ _ _ h => h) (Or.inl ⟨by rfl, ?hya14⟩) (by assumption) ?resta14
  case hya14 =>
    intro W hSw
    clear hSw
    go_simp
    try (with_reducible rfl)
  try simp only [Act.put, List.getElem_toArray, List.getElem_cons_zero, List.getElem_cons_succ, List.setIfInBounds_toArray, List.set_cons_zero, List.set_cons_succ]
  refine wpAnyH_take (i := 15) (oi := _) (v := ?va15) rfl (by kernel_rfl) (by kernel_rfl) (by kernel_rfl) (fun _ _ _ h => h) (Or.inl ⟨by rfl, ?hya15⟩) (by assumption) ?resta15
  case hya15 =>
    intro W hSw
    clear hSw
    go_simp
    try (with_reducible rfl)
  try simp only [Act.put, List.getElem_toArray, List.getElem_cons_zero, List.getElem_cons_succ, List.setIfInBounds_toArray, List.set_cons_zero, List.set_cons_succ]
  refine wpAnyH_take (i := 17) (oi := _) (v := ?va17) rfl (by kernel_rfl) (by kernel_rfl) (by kernel_rfl) (fun _ _ _ h => h) (Or.inl ⟨by rfl, ?hya17⟩) (by assumption) ?resta17
  case hya17 =>
    intro W hSw
    clear hSw
    go_simp
    try (with_reducible rfl)
  try simp only [Act.put, List.getElem_toArray, List.getElem_cons_zero, List.getElem_cons_succ, List.setIfInBounds_toArray, List.set_cons_zero, List.set_cons_succ]
  obtain ⟨X0, hX0⟩ : ∃ X, X = W0.drew := ⟨_, rfl⟩
  rw [← hX0] at b0 hHeld ⊢
  clear hX0
  refine wpAnyH_ready (rs := [4]) (by kernel_rfl) (by simp) ?_
  refine AllReadyH.cons (o := _) rfl (fun K hK => ?_) AllReadyH.nil
  go_simp
  go_at_call 89
  refine (octets_any gen 4 X0 (by have := HX.out.1; omega) (by decide)).mono ?_
  rintro e X1 ⟨r, rfl, g1, k1, rfl, ho1, hb1⟩
  rw [numL_length]
  have f1_1 := ho1.holds
  have b1 := below_cat b0 hb1
  refine hK.out _ _ (HS.out _ b1) (fun _ => ?_)
  clear hK K
  try simp only [Act.put, List.getElem_toArray, List.getElem_cons_zero, List.getElem_cons_succ, List.setIfInBounds_toArray, List.set_cons_zero, List.set_cons_succ]
  refine wpAnyH_ready (rs := [7]) (by kernel_rfl) (by simp) ?_
  refine AllReadyH.cons (o := _) rfl (fun K hK => ?_) AllReadyH.nil
  go_simp
  go_at_call 90
  refine (two_any place HX.out.2.1 X1).mono ?_
  rintro e X2 ⟨r, rfl, g2, k2, rfl, ho2, hb2⟩
  rw [numL_length]
  have f1_2 := HoldsB.below f1_1 hb2
  have f2_2 := ho2.holds
  have b2 := below_cat b1 hb2
  refine hK.out _ _ (HS.out _ b2) (fun _ => ?_)
  clear hK K
  try simp only [Act.put, List.getElem_toArray, List.getElem_cons_zero, List.getElem_cons_succ, List.setIfInBounds_toArray, List.set_cons_zero, List.set_cons_succ]
  refine wpAnyH_ready (rs := [10]) (by kernel_rfl) (by simp) ?_
  refine AllReadyH.cons (o := _) rfl (fun K hK => ?_) AllReadyH.nil
  go_simp
  go_at_call 90
  refine (two_any group HX.out.2.2.1 X2).mono ?_
  rintro e X3 ⟨r, rfl, g3, k3, rfl, ho3, hb3⟩
  rw [numL_length]
  have f1_3 := HoldsB.below f1_2 hb3
  have f2_3 := HoldsB.below f2_2 hb3
  have f3_3 := ho3.holds
  have b3 := below_cat b2 hb3
  refine hK.out _ _ (HS.out _ b3) (fun _ => ?_)
  clear hK K
  try simp only [Act.put, List.getElem_toArray, List.getElem_cons_zero, List.getElem_cons_succ, List.setIfInBounds_toArray, List.set_cons_zero, List.set_cons_succ]
  refine wpAnyH_ready (rs := [13]) (by kernel_rfl) (by simp) ?_
  refine AllReadyH.cons (o := _) rfl (fun K hK => ?_) AllReadyH.nil
  go_simp
  go_at_call 90
  refine (two_any behind HX.out.2.2.2 X3).mono ?_
  rintro e X4 ⟨r, rfl, g4, k4, rfl, ho4, hb4⟩
  rw [numL_length]
  have f1_4 := HoldsB.below f1_3 hb4
  have f2_4 := HoldsB.below f2_3 hb4
  have f3_4 := HoldsB.below f3_3 hb4
  have f4_4 := ho4.holds
  have b4 := below_cat b3 hb4
  refine hK.out _ _ (HS.out _ b4) (fun _ => ?_)
  clear hK K
  try simp only [Act.put, List.getElem_toArray, List.getElem_cons_zero, List.getElem_cons_succ, List.setIfInBounds_toArray, List.set_cons_zero, List.set_cons_succ]
  refine wpAnyH_ready (rs := [16]) (by kernel_rfl) (by simp) ?_
  refine AllReadyH.cons (o := _) rfl (fun K hK => ?_) AllReadyH.nil
  go_simp
  go_at_call 90
  refine (two_any n (by have := HP.out.2.1; omega) X4).mono ?_
  rintro e X5 ⟨r, rfl, g5, k5, rfl, ho5, hb5⟩
  rw [numL_length]
  have f1_5 := HoldsB.below f1_4 hb5
  have f2_5 := HoldsB.below f2_4 hb5
  have f3_5 := HoldsB.below f3_4 hb5
  have f4_5 := HoldsB.below f4_4 hb5
  have f5_5 := ho5.holds
  have b5 := below_cat b4 hb5
  refine hK.out _ _ (HS.out _ b5) (fun _ => ?_)
  clear hK K
  try simp only [Act.put, List.getElem_toArray, List.getElem_cons_zero, List.getElem_cons_succ, List.setIfInBounds_toArray, List.set_cons_zero, List.set_cons_succ]
  refine wpAnyH_ready (rs := [18]) (by kernel_rfl) (by simp) ?_
  refine AllReadyH.cons (o := _) rfl (fun K hK => ?_) AllReadyH.nil
  refine step_is rfl (wp_buildSlice 28 33 6 #[(0, .tmp 10), (1, .tmp 13), (2, .tmp 16), (3, .tmp 19), (4, .tmp 22), (5, .tmp 23)] rfl #[.slice (some ⟨g1, 0, none⟩) 4 k1, .slice (some ⟨g2, 0, none⟩) 2 k2, .slice (some ⟨g3, 0, none⟩) 2 k3, .slice (some ⟨g4, 0, none⟩) 2 k4, .slice (some ⟨g5, 0, none⟩) 2 k5, .slice p n c] ir (.slice none 0 0) Try.underlying28 HIR.out.1 HIR.out.2.1 (by rw [HIR.out.2.2.1]; decide) (by rw [HIR.out.2.2.1]; decide) (by rw [HIR.out.2.2.1, Array.toList_map]; exact fill_six _ _ _ _ _ _ _ _ _ _ _ _ _ _ _ _ _ _) ?_)
  have b6 := b5.alloc b5.size (.cells #[.slice (some ⟨g1, 0, none⟩) 4 k1, .slice (some ⟨g2, 0, none⟩) 2 k2, .slice (some ⟨g3, 0, none⟩) 2 k3, .slice (some ⟨g4, 0, none⟩) 2 k4, .slice (some ⟨g5, 0, none⟩) 2 k5, .slice p n c] 33)
  refine hK.out _ _ (HS.out _ b6) (fun _ => ?_)
  clear hK K
  try simp only [Act.put, List.getElem_toArray, List.getElem_cons_zero, List.getElem_cons_succ, List.setIfInBounds_toArray, List.set_cons_zero, List.set_cons_succ]
  refine wpAnyH_ready (rs := [19]) (by kernel_rfl) (by simp) ?_
  refine AllReadyH.cons (o := _) rfl (fun K hK => ?_) AllReadyH.nil
  go_simp
  go_at_call 88
  refine (tape_cat X5 HP.out.1 HP.out.2.1 f1_5 f2_5 f3_5 f4_5 f5_5 (HP.out.2.2.2.below (below_cat H0.out.2.2.2.1 b5)) HP.out.2.2.1).mono ?_
  rintro e X7 ⟨r, rfl, gc, cc, rfl, hoc, hbc⟩
  have b7 := below_cat b5 hbc
  have hlc : (markL gen place group behind (bl s)).length = 12 + n := by rw [markL_length, bl_length, HP.out.1]
  rw [hlc]
  refine hK.out _ _ (HS.out _ b7) (fun _ => ?_)
  clear hK K
  try simp only [Act.put, List.getElem_toArray, List.getElem_cons_zero, List.getElem_cons_succ, List.setIfInBounds_toArray, List.set_cons_zero, List.set_cons_succ]
  refine wpAnyH_ready (rs := [20]) (by kernel_rfl) (by simp) ?_
  refine AllReadyH.cons (o := _) rfl (fun K hK => ?_) AllReadyH.nil
  have zX : X7.heap[w.heap.size + 2]? = some (.cells zSec.toList.toArray 120 (0, 0)) := (b7.block _ (by rw [H0.out.1]; omega)).trans H0.out.2.1
  refine step_copy_splice rfl (.tmp 6) (.tmp 25) 33 33 rfl 5 Try.underlying33 (by kernel_rfl) (some ⟨w.heap.size + 2, 4, none⟩) (some ⟨gc, 0, none⟩) 60 60 (12 + n) cc (by rfl) (by rfl) (w.heap.size + 2) 4 zSec.toList 120 zX (bytesV (ofL (markL gen place group behind (bl s)))) (by rw [bytesV_length, ofL_size, hlc]; have := HP.out.2.1; exact (Nat.min_eq_left (by omega)).symm) (fun _ => ⟨rfl, _, rfl, fun j v hv => cells_src hoc.holds j v hv⟩) (by rw [bytesV_length, ofL_size, hlc]; have := HP.out.2.1; show 4 + (12 + n) ≤ 64; omega) (bytesV_one _) (w.heap.size + 2) X7 (Below.refl _ _) (Nat.le_refl _) ?_
  intro X8 hw8 hb8
  refine hK.out _ _ ⟨(hb8.cell (by show w.heap.size < w.heap.size + 2; omega)).trans (HS.out _ b7).1, (hb8.cell (by show w.heap.size < w.heap.size + 2; omega)).trans (HS.out _ b7).2.1, (hb8.cell (by show w.heap.size < w.heap.size + 2; omega)).trans (HS.out _ b7).2.2.1, (hb8.cell (by show w.heap.size < w.heap.size + 2; omega)).trans (HS.out _ b7).2.2.2⟩ (fun _ => ?_)
  clear hK K
  have hwf := hw8.out
  rw [splice64 _ (by rw [hlc]; have := HP.out.2.1; omega)] at hwf
  have r8 : X8.heap[w.heap.size + 1]? = some (.cells zSec 120 (0, 0)) := (hb8.block _ (by omega)).trans ((b7.block _ (by rw [H0.out.1]; omega)).trans H0.out.2.2.1)
  have hbw : Below w.heap.size w X8 := (H0.out.2.2.2.1.trans (b7.mono (by rw [H0.out.1]; omega))).trans (hb8.mono (by omega))
  have hl60 : (fillL (markL gen place group behind (bl s)) 60).length = 60 := fillL_length (by rw [hlc]; have := HP.out.2.1; omega)
  obtain ⟨body, hbody⟩ : ∃ body, fillL (markL gen place group behind (bl s)) 60 = body := ⟨_, rfl⟩
  rw [hbody] at hwf hl60
  have H8 := Lib.hid (And.intro hwf (And.intro r8 (And.intro hbw hl60)))
  have HBD := Lib.hid hbody
  refine wpAnyH_done (by kernel_rfl) ?_ _
  clear hHeld hw8 hb8 hwf r8 hbw hl60 hbody zX hlc hoc hbc b7 b6 b5 b4 b3 b2 b1 b0
  go_wp2_with (fail)
  refine wp_region_held_drew (S := fun _ => True) (by kernel_rfl) trivial (fun hHeld => ?_)
  have b0 : Below X8.heap.size X8 X8.drew := (Below.refl _ _).drew
  refine wpAnyH_take (i := 0) (oi := _) (v := ?vb0) rfl (by kernel_rfl) (by kernel_rfl) (by kernel_rfl) (fun _ _ _ h => h) (Or.inl ⟨by rfl, ?hyb0⟩) trivial ?restb0
  case hyb0 =>
    intro W hSw
    clear hSw
    go_simp
    try (with_reducible rfl)
  try simp only [Act.put, List.getElem_toArray, List.getElem_cons_zero, List.getElem_cons_succ, List.setIfInBounds_toArray, List.set_cons_zero, List.set_cons_succ]
  refine wpAnyH_take (i := 1) (oi := _) (v := ?vb1) rfl (by kernel_rfl) (by kernel_rfl) (by kernel_rfl) (fun _ _ _ h => h) (Or.inl ⟨by rfl, ?hyb1⟩) trivial ?restb1
  case hyb1 =>
    intro W hSw
    clear hSw
    go_simp
    try (with_reducible rfl)
  try simp only [Act.put, List.getElem_toArray, List.getElem_cons_zero, List.getElem_cons_succ, List.setIfInBounds_toArray, List.set_cons_zero, List.set_cons_succ]
  obtain ⟨Y0, hY0⟩ : ∃ X, X = X8.drew := ⟨_, rfl⟩
  rw [← hY0] at b0 ⊢
  clear hY0 hHeld
  have rY : Y0.heap[w.heap.size + 2]? = some (.cells (bytesV (ofL (zL 4 ++ body))).toArray 120 (0, 0)) := (b0.block _ (obj_lt H8.out.1)).trans H8.out.1
  have SM := sum_any (some ⟨w.heap.size + 2, 4, none⟩) (ofL body) 60 60 Y0 (by rw [ofL_size, H8.out.2.2.2]) (by decide) (row_part rY (by rfl))
  rw [bl_ofL] at SM
  have hS32 := sumN_lt body
  obtain ⟨S, hS⟩ : ∃ S, sumN body = S := ⟨_, rfl⟩
  rw [hS] at SM hS32
  have HSM := Lib.hid SM
  have HSL := Lib.hid hS
  have HSB := Lib.hid hS32
  have hwS : IntKind.u64.wrap ((S : Nat) : Int) = ((S : Nat) : Int) := by rw [IntKind.wrap_u64]; omega
  clear SM hS hS32
  refine wpAnyH_ready (rs := [2]) (by kernel_rfl) (by simp) ?_
  refine AllReadyH.cons (o := _) rfl (fun K hK => ?_) AllReadyH.nil
  go_simp
  go_at_call 18
  refine HSM.out.mono ?_
  rintro e Y1 ⟨rfl, rfl⟩
  refine hK.out _ _ trivial (fun _ => ?_)
  clear hK K HSM
  try simp only [Act.put, List.getElem_toArray, List.getElem_cons_zero, List.getElem_cons_succ, List.setIfInBounds_toArray, List.set_cons_zero, List.set_cons_succ]
  refine wpAnyH_take (i := 3) (oi := _) (v := ?vb3) rfl (by kernel_rfl) (by kernel_rfl) (by kernel_rfl) (fun _ _ _ h => h) (Or.inl ⟨by rfl, ?hyb3⟩) trivial ?restb3
  case hyb3 =>
    intro W hSw
    clear hSw
    go_simp
    try (with_reducible rfl)
  try simp only [Act.put, List.getElem_toArray, List.getElem_cons_zero, List.getElem_cons_succ, List.setIfInBounds_toArray, List.set_cons_zero, List.set_cons_succ]
  refine wpAnyH_ready (rs := [4]) (by kernel_rfl) (by simp) ?_
  refine AllReadyH.cons (o := _) rfl (fun K hK => ?_) AllReadyH.nil
  go_simp
  go_at_call 89
  refine (octets_any S 4 Y0 (by have := HSB.out; omega) (by decide)).mono ?_
  rintro e Y2 ⟨r, rfl, gs, ks, rfl, hos, hbs⟩
  rw [numL_length]
  have b2 := below_cat b0 hbs
  have rY2 : Y2.heap[w.heap.size + 2]? = some (.cells (bytesV (ofL (zL 4 ++ body))).toArray 120 (0, 0)) := (hbs.block _ (obj_lt rY)).trans rY
  refine hK.out _ _ trivial (fun _ => ?_)
  clear hK K
  try simp only [Act.put, List.getElem_toArray, List.getElem_cons_zero, List.getElem_cons_succ, List.setIfInBounds_toArray, List.set_cons_zero, List.set_cons_succ]
  refine wpAnyH_ready (rs := [5]) (by kernel_rfl) (by simp) ?_
  refine AllReadyH.cons (o := _) rfl (fun K hK => ?_) AllReadyH.nil
  refine step_copy_splice rfl (.tmp 27) (.tmp 31) 33 33 rfl 5 Try.underlying33 (by kernel_rfl) (some ⟨w.heap.size + 2, 0, none⟩) (some ⟨gs, 0, none⟩) 4 64 4 ks (by rfl) (by rfl) (w.heap.size + 2) 0 (bytesV (ofL (zL 4 ++ body))) 120 rY2 (bytesV (ofL (numL S 4))) (by rw [bytesV_length, ofL_size, numL_length]; rfl) (fun _ => ⟨rfl, _, rfl, fun j v hv => cells_src hos.holds j v hv⟩) (by rw [bytesV_length, ofL_size, numL_length, bytesV_length, ofL_size, List.length_append, H8.out.2.2.2]; decide) (bytesV_one _) (w.heap.size + 2) Y2 (Below.refl _ _) (Nat.le_refl _) ?_
  intro Y3 hw3 hb3
  refine hK.out _ _ trivial (fun _ => ?_)
  clear hK K
  have hwf := hw3.out
  rw [splice_sum _ _ (numL_length _ _)] at hwf
  have hfin : numL S 4 ++ body = sectorL gen place group behind (bl s) := by unfold sectorL sealL; rw [HBD.out, HSL.out]
  rw [hfin] at hwf
  have r3 : Y3.heap[w.heap.size + 1]? = some (.cells zSec 120 (0, 0)) := (hb3.block _ (by omega)).trans ((b2.block _ (obj_lt H8.out.2.1)).trans H8.out.2.1)
  have hbf : Below w.heap.size w Y3 := (H8.out.2.2.1.trans (b2.mono H8.out.2.2.1.size)).trans (hb3.mono (by omega))
  have H9 := Lib.hid (And.intro hwf (And.intro r3 hbf))
  refine wpAnyH_done (by kernel_rfl) ?_ _
  clear hw3 hb3 hwf r3 hbf hfin rY rY2 hos hbs b0 b2
  obtain ⟨CS, hCS⟩ : ∃ CS, (bytesV (ofL (sectorL gen place group behind (bl s)))).toArray = CS := ⟨_, rfl⟩
  have hsz : CS.size = 64 := by rw [← hCS, List.size_toArray, bytesV_length, ofL_size, sectorL_length _ _ _ _ _ (by rw [bl_length, HP.out.1]; exact HP.out.2.1)]
  have hi : (Try.prog.info? 120).map (·.size) = some CS.size := by rw [hsz]; exact info64
  have hone : CS.all (·.oneCell') = true := by
    rw [← hCS, List.all_toArray, List.all_eq_true]
    exact bytesV_one _
  have hold : zSec.size = CS.size := by rw [hsz]; rfl
  rw [hCS] at H9
  have HCS := Lib.hid hCS
  clear hCS
  go_wp2_with (first | refine wpList_load_row rfl 120 _ rfl (w.heap.size + 2) rfl 120 CS (0, 0) _ H9.out.1 Try.underlying120 rfl hi ?_ | refine wpList_store_row rfl 120 _ _ rfl (w.heap.size + 1) CS rfl rfl 120 zSec H9.out.2.1 hi hold hone ?_)
  refine bodyPost_ret (v := .agg CS) (results_cell_row rfl _ _ (w.heap.size + 1) 120 CS (0, 0) _ (by go_simp) (setRow_heap _ _ _ _ _ _ H9.out.2.1) Try.underlying120 rfl hi) rfl ⟨by rw [HCS.out], below_setRow H9.out.2.2 (by omega) _⟩
end Go.Proofs.Ytphcifejdggeoaa
