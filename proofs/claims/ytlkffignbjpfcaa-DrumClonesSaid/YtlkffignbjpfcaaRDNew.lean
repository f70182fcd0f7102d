/- Proved here: what New makes of the document's drum. -/
import Derived.Test.YtlkffignbjpfcaaRDRead
namespace Go.Proofs.Ytlkffignbjpfcaa
open Go.RowKit

/-- A row more while the document's New goes on. -/
structure NewIn (wr W : World) (D n j : Nat) (s : Option Addr) (c : Nat) (Vs : List Value) : Prop where
  blk : wr.heap[D]? = some (.cells #[.slice s j c, .slice none 0 0, .int .i64 0, .int .i64 (-1), .bool false] 31 (0, 0))
  own : wr.ownsRow W.heap.size 33 1 (.slice s j c) j Vs
  rows : ∀ i, i < j → ∃ v, Vs[i]? = some v ∧ RowOut wr (fun k => k < W.heap.size ∨ k = D) v (zeroB 64)
  below : Below W.heap.size W wr
  at_ : W.heap.size ≤ D
  ne : D ≠ W.heap.size
  res : wr.heap[W.heap.size]? = some (.cells #[.slice none 0 0, .slice none 0 0, .int .i64 0, .int .i64 0, .bool false] 31 (0, 0))
theorem zrow_out {w : World} {X : Nat → Prop} (hx : ¬ X w.heap.size) : RowOut (w.alloc (.cells zRow.toArray 5)) X (.slice (some ⟨w.heap.size, 0, none⟩) 64 64) (zeroB 64) := by
  refine ⟨w.heap.size, 64, _, rfl, hx, heap_alloc_new w _, ?_, zeroB_size 64⟩
  rw [bytesV_zero]
  rfl
/-- Where New's row may lie: the row of noughts, its cell, the rest. -/
theorem NewIn.more {wr W W4 : World} {D n j zb lb : Nat} {s : Option Addr} {c : Nat} {Vs : List Value} (h : NewIn wr W D n j s c Vs) (hj : j < 16384)
    (hb4 : Below wr.heap.size wr W4) (hrow : RowOut W4 (fun k => k < wr.heap.size) (.slice (some ⟨zb, 0, none⟩) 64 64) (zeroB 64)) (hlb : W4.heap[lb]? = some (.cells #[.slice (some ⟨zb, 0, none⟩) 64 64] 33 (0, 0))) :
    ∃ g cap w5, (∀ ty, (Builtin.append_ #[28, 28] ty #[.slice s j c, .slice (some ⟨lb, 0, none⟩) 1 1]).run Try.prog W4 = .ok (.slice (some ⟨g, 0, none⟩) (j + 1) cap) w5) ∧ wr.heap.size ≤ w5.heap.size ∧ (∃ u, w5.cell? ⟨D, 0, none⟩ = some u) ∧ w5.frozen? ⟨D, 0, none⟩ = false ∧
      ∃ Vs', NewIn (w5.setCell ⟨D, 0, none⟩ (.slice (some ⟨g, 0, none⟩) (j + 1) cap)) W D n (j + 1) (some ⟨g, 0, none⟩) cap Vs' := by
  obtain ⟨iR, hiR, hzR, hsR, hbR⟩ := info_parts infoRow
  have hD := block_lt h.blk
  have ho4 := owns_block (W' := W4) h.own (fun k hk => hb4.block k (h.own.lt k hk).2)
  obtain ⟨g, cap, w5, hrun, ho5, hgr, hat, hlt⟩ := run_append_lies (P := Try.prog) W4 28 28 W.heap.size 33 iR _ 1 24 Try.underlying28 hiR hzR hsR hbR rfl (by decide) (.slice s j c) j Vs ho4 ⟨lb, 0, none⟩ 1 1 [.slice (some ⟨zb, 0, none⟩) 64 64] rfl
    (World.news_of_block (cs := #[.slice (some ⟨zb, 0, none⟩) 64 64]) hlb) (by intro u hu; rw [List.mem_singleton.1 hu]; rfl) (by decide) (by unfold maxLen; omega) (by omega) (by have := h.below.size; have := hb4.size; omega) W4.heap.size rfl
  have hDq : some D ≠ (Value.slice s j c).ownBlock := fun e => by
    obtain ⟨cur, hc⟩ := owns_type' h.own e.symm
    exact absurd (obj_type' h.blk hc) (by decide)
  have hD5 : w5.heap[D]? = wr.heap[D]? := (hgr.block D (by have := hb4.size; omega) hDq).trans (hb4.block D hD)
  have hgD : g ≠ D := by
    rcases hat with e | e
    · exact fun e' => hDq (by rw [e, e'])
    · have := hb4.size; omega
  have hro : ∀ {u : Value} {r : ByteArray} {X X' : Nat → Prop}, RowOut W4 X u r → (∀ k, ¬ X k → ¬ X' k) → (∀ k, ¬ X k → k ≠ D) → RowOut (w5.setCell ⟨D, 0, none⟩ (.slice (some ⟨g, 0, none⟩) (j + 1) cap)) X' u r := fun hr hX hXD => hr.keep fun b cur hf hh => ⟨(set_other b (hXD b hf)).trans (hgr.block b (block_lt hh) (fun e => by
    obtain ⟨cur', hc⟩ := owns_type' ho4 e.symm
    exact absurd (obj_type' hh hc) (by decide))), hX b hf⟩
  have hvl : Vs.length = j := by have := h.own.1; omega
  refine ⟨g, cap, w5, fun ty => hrun, by have := hb4.size; have := hgr.size; omega, ⟨_, by rw [cell_of_row _ _ _ _ _ _ (hD5.trans h.blk)]; rfl⟩, frozen_of_row _ _ _ _ _ (hD5.trans h.blk), Vs ++ [.slice (some ⟨zb, 0, none⟩) 64 64], ⟨u_row (k := 0) _ (hD5.trans h.blk), owns_block ho5 (fun k hk => set_other k (by injection hk with e; rw [← e]; exact hgD)), fun i hi => ?_, ?_, h.at_, h.ne, ?_⟩⟩
  · by_cases hij : i < j
    · obtain ⟨u, hu, hr⟩ := h.rows i hij
      refine ⟨u, by rw [List.getElem?_append_left (by omega)]; exact hu, ?_⟩
      exact hro (hr.keep (F' := fun k => k < W.heap.size ∨ k = D) fun b cur hf hh => ⟨hb4.block b (block_lt hh), hf⟩) (fun k hk => hk) (fun k hk e => hk (.inr e))
    · obtain rfl : i = j := by omega
      refine ⟨_, by rw [List.getElem?_append_right (by omega), hvl, Nat.sub_self]; rfl, ?_⟩
      refine hro hrow (fun k hk hx => ?_) (fun k hk e => hk (by rw [e]; exact hD))
      rcases hx with hx | hx
      · have := h.below.size; omega
      · exact hk (by rw [hx]; exact hD)
  · have h1 : Below W.heap.size W w5 := (h.below.trans (hb4.mono h.below.size)).grown hgr (by have := h.below.size; have := hb4.size; omega) (fun k e => (h.own.lt k e).1)
    exact h1.setCell (p := ⟨D, 0, none⟩) h.at_ _
  · have hr := block_lt h.res
    have hq : some W.heap.size ≠ (Value.slice s j c).ownBlock := fun e => by
      obtain ⟨cur, hc⟩ := owns_type' h.own e.symm
      exact absurd (obj_type' h.res hc) (by decide)
    exact (set_other _ (fun e => h.ne e.symm)).trans (((hgr.block _ (by have := hb4.size; omega) hq).trans (hb4.block _ hr)).trans h.res)
end Go.Proofs.Ytlkffignbjpfcaa
