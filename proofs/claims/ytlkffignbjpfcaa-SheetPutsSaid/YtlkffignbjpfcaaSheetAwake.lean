/- Proved here: the plan of a drum; the answers of sheet that each of its laws asks first are as the document fixes them. -/
import Derived.Test.YtlkffignbjpfcaaPagePlain
import Derived.Laws.StructEq
import Derived.Laws.ResultCell
import Derived.Lib.SlBytesConst
namespace Go.Proofs.Ytlkffignbjpfcaa
open Go.RowKit

def planV (n : Nat) : Value := .agg #[.int .i64 ((n / 4 : Nat) : Int), .int .i64 ((2 + n / 4 : Nat) : Int), .int .i64 (((n - (2 + n / 4)) / 8 : Nat) : Int)]
set_option maxRecDepth 100000 in
set_option maxHeartbeats 2000000 in
theorem draft_ok (n : Nat) (h1 : 64 ≤ n) (h2 : n ≤ 16384) (w : World) :
    Calls Try.prog 40 #[.int .i64 (n : Int)] w fun e w' => e = .returned (.tuple #[planV n, .int .i64 0]) ∧ Below w.heap.size w w' := by
  have g1 : (64 : Int) ≤ (n : Int) := by omega
  have g2 : (n : Int) ≤ 16384 := by omega
  have e1 : (n : Int) / 4 = ((n / 4 : Nat) : Int) := by omega
  have e2 : ((n : Int) - (2 + (n : Int) / 4)) / 8 = (((n - (2 + n / 4)) / 8 : Nat) : Int) := by omega
  have HE := Lib.hid (And.intro e1 e2)
  clear e1 e2
  go_enter Try.func40, Try.ntmps40
  go_wp2_with (fail)
  (try simp only [Exit.inBlock, Exit.then])
  refine bodyPost_ret (v := .tuple #[.agg #[.int .i64 ((n : Int) / 4), .int .i64 (2 + (n : Int) / 4), .int .i64 (((n : Int) - (2 + (n : Int) / 4)) / 8)], .int .i64 0]) ?_ rfl ⟨?_, ?_⟩
  · rw [results_cell_tmp rfl]
    go_simp
  · unfold planV
    rw [HE.out.2, HE.out.1]
    rfl
  · exact (Below.refl _ _).alloc (Nat.le_refl _) _
set_option maxRecDepth 100000 in
set_option maxHeartbeats 2000000 in
theorem draft_arg (n : Int) (h : n < 64 ∨ 16384 < n) (w : World) :
    Calls Try.prog 40 #[.int .i64 n] w fun e w' => e = .returned (.tuple #[.agg #[.int .i64 0, .int .i64 0, .int .i64 0], .int .i64 1]) ∧ Below w.heap.size w w' := by
  go_enter Try.func40, Try.ntmps40
  go_wp2_with (fail)
  all_goals first
    | (exfalso; omega)
    | (try simp only [Exit.inBlock, Exit.then]
       refine bodyPost_ret (v := .tuple #[.agg #[.int .i64 0, .int .i64 0, .int .i64 0], .int .i64 1]) ?_ rfl ⟨rfl, (Below.refl _ _).alloc (Nat.le_refl _) _⟩
       rw [results_cell_tmp rfl]
       go_simp)
theorem NewB.cell {l : List UInt8} {w W : World} {r : Value} (h : NewB l w r W) : ∃ g c, r = .slice (some ⟨g, 0, none⟩) l.length c ∧ w.heap.size ≤ g ∧ l.length ≤ c ∧ ∀ j x, l[j]? = some x → W.cell? ⟨g, j, none⟩ = some (.int .u8 (x.toNat : Int)) := by
  obtain ⟨g, c, e, ho, hb⟩ := h
  refine ⟨g, c, e, ho.2.1, by have := ho.2.2.2; rw [ofL_size] at this; exact this, fun j x hx => ?_⟩
  have hj : j < l.length := (List.getElem?_eq_some_iff.1 hx).1
  obtain ⟨b, off, e', hc⟩ := ho.holds (by rw [ofL_size]; omega)
  cases e'
  have h1 := hc j (by rw [ofL_size]; exact hj)
  have h2 := bl_get (ofL l) j (by rw [ofL_size]; exact hj)
  rw [bl_ofL, hx] at h2
  rw [Nat.zero_add] at h1
  rw [h1, ← Option.some.inj h2]
theorem blk_lt {w : World} {k : Nat} {o : Obj} (h : w.heap[k]? = some o) : k < w.heap.size := by
  rcases Nat.lt_or_ge k w.heap.size with h1 | h1
  · exact h1
  · rw [Array.getElem?_eq_none h1] at h; cases h
def lA : ByteArray := ⟨#[97]⟩
theorem page_at16 : (pageL 1 7 (bl lA))[16]? = some 97 := by
  have h := (page_parts 1 7 (bl lA)).2.2.2
  have : (pageL 1 7 (bl lA))[16]? = ((pageL 1 7 (bl lA)).drop 16)[0]? := by rw [List.getElem?_drop]
  rw [this, h]
  rfl
set_option maxRecDepth 100000 in
set_option maxHeartbeats 8000000 in
theorem awake15_any (w : World) : Calls Try.prog 11 #[] w fun e w' => e = .returned (.bool true) ∧ Below w.heap.size w w' := by
  have DR := Lib.hid (draft_ok 100 (by decide) (by decide) w)
  have hplan : planV 100 = .agg #[.int .i64 25, .int .i64 27, .int .i64 9] := rfl
  rw [hplan] at DR
  clear hplan
  go_enter Try.func11, Try.ntmps11
  go_wp2_with (fail)
  refine DR.out.mono ?_
  rintro e W1 ⟨rfl, hb⟩
  have B1 := Lib.hid hb
  clear hb DR
  obtain ⟨PV, hPV⟩ : ∃ PV : Obj, PV = .cells #[.int .i64 25, .int .i64 27, .int .i64 9] 89 := ⟨_, rfl⟩
  obtain ⟨WA, hWA⟩ : ∃ WA, W1.alloc (.cells #[.int .i64 25, .int .i64 27, .int .i64 9] 89) = WA := ⟨_, rfl⟩
  have hsz : WA.heap.size = W1.heap.size + 1 := by rw [← hWA]; simp
  have hpl : WA.heap[W1.heap.size]? = some (.cells #[.int .i64 25, .int .i64 27, .int .i64 9] 89 (0, 0)) := by rw [← hWA]; exact heap_alloc_new _ _
  have hbA : Below w.heap.size w WA := by rw [← hWA]; exact B1.out.alloc (B1.out.size) _
  have kc := Lib.run_convert_bytes_const (P := Try.prog) WA 33 5 #[.int .u8 97] 1 1 Try.underlying33 Try.underlying5
  have hA := heap_alloc_new WA (.cells #[.int .u8 97] 5 (1, 2))
  have hp : HoldsB (WA.alloc (.cells #[.int .u8 97] 5 (1, 2))) (some ⟨WA.heap.size, 0, none⟩) lA := fun _ => ⟨_, _, rfl, fun j hj => by
    have hj0 : j = 0 := by
      have : j < 1 := hj
      omega
    subst hj0
    rw [Nat.zero_add, cell_of_row _ _ _ _ _ _ hA]
    rfl⟩
  have LY := lay_ok 1 7 (some ⟨WA.heap.size, 0, none⟩) lA 1 1 (WA.alloc (.cells #[.int .u8 97] 5 (1, 2))) (by decide) (by decide) rfl (by decide) hp (fun e => by cases e)
  have hbB : Below w.heap.size w (WA.alloc (.cells #[.int .u8 97] 5 (1, 2))) := hbA.alloc hbA.size _
  have hpl2 : (WA.alloc (.cells #[.int .u8 97] 5 (1, 2))).heap[W1.heap.size]? = some (.cells #[.int .i64 25, .int .i64 27, .int .i64 9] 89 (0, 0)) := (Below.heap_alloc WA _ _ (by omega)).trans hpl
  rw [hsz, show ((1 : Nat) : Int) = 1 from rfl, show ((7 : Nat) : Int) = 7 from rfl] at LY
  rw [hsz] at kc
  have L1 := Lib.hid LY
  have H1 := Lib.hid (And.intro hbB (And.intro hpl2 hsz))
  rw [← hWA] at kc L1 H1
  clear hPV hWA hsz hpl hbA hA hp LY hbB hpl2
  go_wp2_with (fail)
  refine L1.out.mono ?_
  rintro e W2 ⟨r, rfl, hr⟩
  obtain ⟨g1, c1, rfl, hg1, hc1, hx1⟩ := hr.cell
  have hb2 := hr.below
  have hl1 : (pageL 1 7 (bl lA)).length = 512 := pageL_length (by decide)
  have x1 := hx1 16 97 page_at16
  obtain ⟨gg, cc, e, ho, _⟩ := hr
  rw [hl1] at hc1 e ⊢
  cases e
  have TK := take_512 1 (by decide) g1 0 (ofL (pageL 1 7 (bl lA))) c1 W2 (by rw [ofL_size, hl1]) hc1 ho.holds
  rw [bl_ofL, take_page 1 7 (bl lA) (by decide) (by decide) (by decide), show ((1 : Nat) : Int) = 1 from rfl] at TK
  have T1 := Lib.hid TK
  have hc16 : (16 : Int) < (c1 : Int) := by omega
  have hp2 : W2.heap[W1.heap.size]? = some (.cells #[.int .i64 25, .int .i64 27, .int .i64 9] 89 (0, 0)) := (hb2.block _ (blk_lt H1.out.2.1)).trans H1.out.2.1
  have H2 := Lib.hid (And.intro (below_cat H1.out.1 hb2) (And.intro hp2 x1))
  clear hg1 hx1 hb2 hl1 x1 ho TK L1 hp2
  go_wp2_with (fail)
  refine T1.out.mono ?_
  rintro e W3 ⟨r, rfl, hr⟩
  rcases hr with ⟨h0, _⟩ | hr
  · exact absurd (congrArg List.length h0) (by rw [fillL_length (by decide)]; decide)
  obtain ⟨g2, c2, rfl, hg2, hc2, hx2⟩ := hr.cell
  have hb3 := hr.below
  have x2 : W3.cell? ⟨g2, 0, none⟩ = some (.int .u8 97) := hx2 0 97 rfl
  have hl2 : (fillL (bl lA) 496).length = 496 := fillL_length (by decide)
  have x1 : W3.cell? ⟨g1, 16, none⟩ = some (.int .u8 97) := hb_cell hb3 H2.out.2.2
  have hp3 : W3.heap[W1.heap.size]? = some (.cells #[.int .i64 25, .int .i64 27, .int .i64 9] 89 (0, 0)) := (hb3.block _ (blk_lt H2.out.2.1)).trans H2.out.2.1
  have y0 : W3.cell? ⟨W1.heap.size, 0, none⟩ = some (.int .i64 25) := by rw [cell_of_row _ _ _ _ _ _ hp3]; rfl
  have y1 : W3.cell? ⟨W1.heap.size, 1, none⟩ = some (.int .i64 27) := by rw [cell_of_row _ _ _ _ _ _ hp3]; rfl
  have y2 : W3.cell? ⟨W1.heap.size, 2, none⟩ = some (.int .i64 9) := by rw [cell_of_row _ _ _ _ _ _ hp3]; rfl
  have H3 := Lib.hid (below_cat H2.out.1 hb3)
  rw [hl2] at hc2 ⊢
  have hc9 : (0 : Int) < (c2 : Int) := by omega
  clear hr hg2 hx2 hb3 hl2 hp3 T1
  go_wp2_with (fail)
  go_ret
  exact ⟨rfl, H3.out⟩
end Go.Proofs.Ytlkffignbjpfcaa
