/- Proved here: what is wanted of a head's bytes: a constant's row, a copy, three pieces. -/
import Derived.Test.YtlkffignbjpfcaaRefPage
import Derived.Great.BuildSlice
import Derived.Deep.RegionHeld3
import Derived.Deep.RegionLaw
import Derived.Laws.CopyOwn
import Derived.Lib.SlBytesConst
namespace Go.Proofs.Ytlkffignbjpfcaa
open Go.RowKit

def litL : List UInt8 := [76, 69, 67, 84]
def litV : Array Value := #[.int .u8 76, .int .u8 69, .int .u8 67, .int .u8 84]
theorem step_is {P : Program} {ops : Array Oper} {o : Oper} {a : Act} {w : World} {K : Act → World → Prop} {Q : Exit → Act → World → Prop} {E : Prop} (hgd : o.guard = none) (h : Oper.wp P o a w K Q) :
    if Region.wanted o (yielded ops a.tmps) = true then Oper.wp P o a w K Q else E := by
  rw [if_pos (by simp [Region.wanted, hgd])]
  exact h
theorem wp_conv_eq {P : Program} {w : World} {o : Oper} {a : Act} {K : Act → World → Prop} {Q : Exit → Act → World → Prop} (s t : TypeId) (x : Operand)
    (ho : o.op = .convert s t x) (v v' : Value) (w' : World) (hs : a.eval x = v) (hrun : (convert s t v).run P w = .ok v' w') (h : K (a.put o.dst v') w') : Oper.wp P o a w K Q := by
  unfold Oper.wp
  simp [execOp, ho, hs, hrun, Result.andThen]
  exact h
/-- '[]byte("..")' of a constant's row, wherever it lies. -/
theorem conv_late {W : World} {a n c : Nat} {C : Array Value} (h : W.heap[a]? = some (.cells C 5 (0, 0))) :
    ∃ W', (convert 33 33 (.slice (some ⟨a, 0, none⟩) n c)).run Try.prog W = .ok (.slice (some ⟨a, 0, none⟩) n c) W' ∧ W'.heap[a]? = some (.cells C 5 (C.size, C.size + 1)) ∧ (∀ k, k ≠ a → W'.heap[k]? = W.heap[k]?) ∧ W'.heap.size = W.heap.size ∧ W'.os = W.os ∧ W'.tape = W.tape ∧ W'.output = W.output := by
  have hu := run_underlying (P := Try.prog) Try.underlying33
  have he := run_underlying (P := Try.prog) Try.underlying5
  have hsh : W.shape? a = some (5, C.size) := by
    unfold World.shape?
    rw [h]
  refine ⟨W.freeze ⟨a, C.size, none⟩ 1, ?_, ?_, fun k hk => ?_, ?_, rfl, rfl, rfl⟩
  · simp [convert, hu, he, hsh, markStringish]
  · show (W.heap.modify a _)[a]? = _
    rw [Array.getElem?_modify, if_pos rfl, h]
    rfl
  · show (W.heap.modify a _)[k]? = _
    rw [Array.getElem?_modify, if_neg (fun e => hk e.symm)]
  · show (W.heap.modify a _).size = _
    simp
theorem lit_holds {W : World} {a : Nat} {fr : Nat × Nat} (h : W.heap[a]? = some (.cells litV 5 fr)) : HoldsB W (some ⟨a, 0, none⟩) (ofL litL) := fun _ => ⟨a, 0, rfl, fun j hj => by
  rw [ofL_size] at hj
  rw [Nat.zero_add, cell_of_row _ _ _ _ _ _ h]
  have : j = 0 ∨ j = 1 ∨ j = 2 ∨ j = 3 := by simp [litL] at hj; omega
  rcases this with rfl | rfl | rfl | rfl <;> rfl⟩
/-- Cells that are as they were. -/
theorem cells_late {W W' : World} {a : Nat} {C : Array Value} {T : TypeId} {f g : Nat × Nat} (h : W.heap[a]? = some (.cells C T f)) (h' : W'.heap[a]? = some (.cells C T g)) (ho : ∀ k, k ≠ a → W'.heap[k]? = W.heap[k]?) (p : Addr) : W'.cell? p = W.cell? p := by
  by_cases e : p.block = a
  · simp [World.cell?, e, h, h']
  · exact World.cell?_of_block (ho _ e)
theorem holds_late {W W' : World} {q : Option Addr} {s : ByteArray} (h : HoldsB W q s) (hc : ∀ p, W'.cell? p = W.cell? p) : HoldsB W' q s := fun h0 => by
  obtain ⟨b, off, e, hx⟩ := h h0
  exact ⟨b, off, e, fun j hj => by rw [hc]; exact hx j hj⟩
theorem below_late {W0 W W' : World} {a : Nat} (h : Below W0.heap.size W0 W) (ha : W0.heap.size ≤ a) (ho : ∀ k, k ≠ a → W'.heap[k]? = W.heap[k]?) (hz : W'.heap.size = W.heap.size) (h1 : W'.os = W.os) (h2 : W'.tape = W.tape) (h3 : W'.output = W.output) : Below W0.heap.size W0 W' :=
  ⟨h1.trans h.os, h2.trans h.tape, h3.trans h.output, by rw [hz]; exact h.size, fun k hk => (ho k (by omega)).trans (h.block k hk)⟩
theorem fill_lit : Instr.fill (fun i => some (i * 1, 1)) (madeCells (Value.int .u8 0).cells (4 * 1)) [(0, .int .u8 76), (1, .int .u8 69), (2, .int .u8 67), (3, .int .u8 84)] = some litV := by kernel_rfl
theorem made_three (v : Value) (hv : v.cells = #[v]) : madeCells v.cells (3 * 1) = #[v, v, v] := by
  rw [hv]
  apply Array.ext_getElem?
  intro i
  unfold madeCells
  by_cases h : i < 3
  · rw [Array.getElem?_map, Array.getElem?_range, if_pos (by omega)]
    have : i = 0 ∨ i = 1 ∨ i = 2 := by omega
    rcases this with rfl | rfl | rfl <;> simp
  · rw [Array.getElem?_eq_none (by simp; omega), Array.getElem?_eq_none (by simp; omega)]
theorem fill_three (p q r : Option Addr) (a b c d e f : Nat) : Instr.fill (fun i => some (i * 1, 1)) (madeCells (Value.slice none 0 0).cells (3 * 1)) [(0, .slice p a b), (1, .slice q c d), (2, .slice r e f)] = some #[.slice p a b, .slice q c d, .slice r e f] := by
  rw [made_three _ rfl]
  simp [Instr.fill, Value.cells]
theorem blk_lt2 {w : World} {k : Nat} {o : Obj} (h : w.heap[k]? = some o) : k < w.heap.size := by
  rcases Nat.lt_or_ge k w.heap.size with h1 | h1
  · exact h1
  · rw [Array.getElem?_eq_none h1] at h; cases h
theorem cells_src {W : World} {g : Nat} {s : ByteArray} (h : HoldsB W (some ⟨g, 0, none⟩) s) (j : Nat) (v : Value) (hv : (bytesV s)[j]? = some v) : W.cell? ((⟨g, 0, none⟩ : Addr).add j) = some v := by
  have hj : j < s.size := by have := (List.getElem?_eq_some_iff.1 hv).1; rwa [bytesV_length] at this
  obtain ⟨b, off, e, hc⟩ := h (by omega)
  cases e
  rw [Addr.add_mid, hc j hj, ← hv, bytesV_get s j hj]
theorem head_cat {gen st a g4 c4 g8 c8 : Nat} (P : World) (h1 : HoldsB P (some ⟨a, 0, none⟩) (ofL litL)) (h2 : HoldsB P (some ⟨g4, 0, none⟩) (ofL (numL gen 4))) (h3 : HoldsB P (some ⟨g8, 0, none⟩) (ofL (numL st 8))) :
    Calls Try.prog 61 #[.slice (some ⟨P.heap.size, 0, none⟩) 3 3] (P.alloc (.cells #[.slice (some ⟨a, 0, none⟩) 4 4, .slice (some ⟨g4, 0, none⟩) 4 c4, .slice (some ⟨g8, 0, none⟩) 8 c8] 33)) fun e w' => ∃ r, e = .returned r ∧ NewB (litL ++ (numL gen 4 ++ numL st 8)) P r w' := by
  have hcat : catP [(some ⟨a, 0, none⟩, 4, ofL litL), (some ⟨g4, 0, none⟩, c4, ofL (numL gen 4)), (some ⟨g8, 0, none⟩, c8, ofL (numL st 8))] = litL ++ (numL gen 4 ++ numL st 8) := by
    unfold catP
    simp only [List.flatMap_cons, List.flatMap_nil, List.append_nil, bl_ofL]
  have hz : (litL ++ (numL gen 4 ++ numL st 8)).length = 16 := by simp [litL, numL_length]
  have CL := concat_lit [(some ⟨a, 0, none⟩, 4, ofL litL), (some ⟨g4, 0, none⟩, c4, ofL (numL gen 4)), (some ⟨g8, 0, none⟩, c8, ofL (numL st 8))] P 3 rfl #[.slice (some ⟨a, 0, none⟩) 4 4, .slice (some ⟨g4, 0, none⟩) 4 c4, .slice (some ⟨g8, 0, none⟩) 8 c8] 33 (0, 0) (by
      show _ = [Value.slice (some ⟨a, 0, none⟩) (ofL litL).size 4, Value.slice (some ⟨g4, 0, none⟩) (ofL (numL gen 4)).size c4, Value.slice (some ⟨g8, 0, none⟩) (ofL (numL st 8)).size c8]
      rw [ofL_size, ofL_size, ofL_size, numL_length, numL_length]
      rfl) (fun x hx => by
      simp only [List.mem_cons, List.not_mem_nil, or_false] at hx
      rcases hx with rfl | rfl | rfl
      · exact ⟨h1, fun e => by cases e⟩
      · exact ⟨h2, fun e => by cases e⟩
      · exact ⟨h3, fun e => by cases e⟩) (by rw [hcat, hz]; decide) (by rw [hcat, hz]; decide) (by show 3 ≤ 1024; decide)
  rw [hcat] at CL
  exact CL
def z60 : List Value := List.replicate 60 (Value.int .u8 0)
theorem make60 (w : World) : (Instr.makeSlice 33 (.int .i64 60) (.int .i64 60)).run Try.prog w = .ok (.slice (some ⟨w.heap.size, 0, none⟩) 60 60) (w.alloc (.cells z60.toArray 5)) := by
  obtain ⟨i0, hi, hz0, hz1, hz2⟩ := info_parts infoByte
  have hr := run_make (P := Try.prog) w 33 5 i0 (.int .u8 0) Try.underlying33 hi hz0 .i64 .i64 60 60 (by decide) (by decide) (by rw [hz2]; decide) (by decide)
  rw [hz1] at hr
  have e : madeCells (Value.int IntKind.u8 0).cells ((60 : Int).toNat * 1) = z60.toArray := by kernel_rfl
  rw [e] at hr
  exact hr
theorem splice60 (cs : List UInt8) (h : cs.length ≤ 60) : splice z60 0 (bytesV (ofL cs)) = bytesV (ofL (fillL cs 60)) := by
  unfold splice z60 fillL zL
  rw [bytesV_ofL, bytesV_ofL]
  simp only [List.take_zero, List.nil_append, Nat.zero_add, List.drop_replicate, List.map_append, List.map_replicate, List.length_map]
  rfl
theorem row_holds {W : World} {g : Nat} {l : List UInt8} (h : W.heap[g]? = some (.cells (bytesV (ofL l)).toArray 5 (0, 0))) : HoldsB W (some ⟨g, 0, none⟩) (ofL l) := fun _ => ⟨g, 0, rfl, fun j hj => by
  rw [Nat.zero_add, cell_of_row _ _ _ _ _ _ h, List.getElem?_toArray]
  exact bytesV_get _ j hj⟩
theorem infoRow2 : (Try.prog.info? 33).map (fun i => (i.zero, i.size, i.bytes)) = some (some (.slice none 0 0), 1, 24) := by kernel_rfl
end Go.Proofs.Ytlkffignbjpfcaa
