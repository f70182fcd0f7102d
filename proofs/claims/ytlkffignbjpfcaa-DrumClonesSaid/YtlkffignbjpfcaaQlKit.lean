/- Proved here: the program's drum and the document's, side by side, beside another pair: how they lie. -/
import Derived.Test.YtlkffignbjpfcaaRDNew2
namespace Go.Proofs.Ytlkffignbjpfcaa
open Go.RowKit

/-- Few steps were done. -/
structure Small (M : DM) (b : Nat) : Prop where
  steps : M.steps ≤ b
  loose : M.loose.length ≤ b
  fuse : M.fuse.getD 0 ≤ 9223372036854775807
theorem Small.tame {M : DM} {b : Nat} (h : Small M b) (hb : b ≤ 100000) : Tame M := ⟨by have := h.steps; omega, h.fuse, by have := h.loose; omega⟩
theorem Small.mono {M : DM} {b c : Nat} (h : Small M b) (hb : b ≤ c) : Small M c := ⟨Nat.le_trans h.steps hb, Nat.le_trans h.loose hb, h.fuse⟩
theorem Small.step {M : DM} {b : Nat} (h : Small M b) : Small M.step (b + 1) := by
  by_cases ho : M.off = true
  · rw [M.step_no ho]
    exact ⟨Nat.le_succ_of_le h.steps, Nat.le_succ_of_le h.loose, h.fuse⟩
  · have ho : M.off = false := by simpa using ho
    refine ⟨by rw [M.step_steps ho]; have := h.steps; omega, by rw [M.step_loose]; exact Nat.le_succ_of_le h.loose, ?_⟩
    rw [M.step_fuse ho]
    have := h.fuse
    cases hf : M.fuse with
    | none => exact Nat.zero_le _
    | some k =>
      rw [hf, Option.getD_some] at this
      rw [Option.map_some, Option.getD_some]
      omega
theorem Small.write {M : DM} {b n : Nat} {s : ByteArray} (h : Small M b) : Small (M.write n s) (b + 1) := by
  by_cases ho : M.off = true
  · have e : M.write n s = M.step := by unfold DM.write; rw [ho]; rfl
    rw [e]; exact h.step
  · have ho : M.off = false := by simpa using ho
    rw [M.write_yes ho]
    exact ⟨h.step.steps, by simp; exact h.loose, h.step.fuse⟩
theorem Small.flush {M : DM} {b : Nat} (h : Small M b) : Small M.flush (b + 1) := by
  by_cases ho : M.off = true
  · rw [M.flush_no ho]; exact h.step
  · have ho : M.off = false := by simpa using ho
    rw [M.flush_yes ho]
    exact ⟨h.step.steps, Nat.zero_le _, h.step.fuse⟩
theorem Small.fused {M : DM} {b k : Nat} (h : Small M b) (hk : k ≤ 9223372036854775807) : Small (M.fused k) b := ⟨h.steps, h.loose, hk⟩
theorem Small.crash {M : DM} {b : Nat} (h : Small M b) (keep : List Bool) : Small (M.crash keep) b := ⟨h.steps, Nat.zero_le _, Nat.zero_le _⟩
def Mut (F : Nat → Prop) (R : Nat) (k : Nat) : Prop := F k ∨ k = R
def Mue (E F : Nat → Prop) (R : Nat) (k : Nat) : Prop := Mut F R k ∨ E k
/-- Both drums, of one mind. -/
structure PS (w W : World) (E F : Nat → Prop) (G R N : Nat) (M : DM) : Prop where
  d : DW w W F G N M
  r : RDrum W (Mue E F R) R N M
  nf : ¬ F R
  at_ : w.heap.size ≤ R
theorem RDrum.lt {W : World} {X : Nat → Prop} {R N : Nat} {M : DM} (h : RDrum W X R N M) : ∀ k, X k → k < W.heap.size := by
  obtain ⟨_, _, _, _, _, _, hd⟩ := h
  exact hd.lt
theorem RDrum.rlt {W : World} {X : Nat → Prop} {R N : Nat} {M : DM} (h : RDrum W X R N M) : R < W.heap.size := by
  obtain ⟨_, _, _, _, _, _, hd⟩ := h
  exact block_lt hd.blk
theorem PS.on {w W W' : World} {E F : Nat → Prop} {G R N : Nat} {M : DM} (h : PS w W E F G R N M) (hb : Below W.heap.size W W') : PS w W' E F G R N M :=
  ⟨h.d.on hb, h.r.touch (Y := fun _ => False) (Touch.of_below hb) (fun _ hf => hf.elim) (hb.block R h.r.rlt) (fun _ hk => .inl hk) (fun k hk => Nat.lt_of_lt_of_le (h.r.lt k hk) hb.size), h.nf, h.at_⟩
/-- The program's drum did a step; the document's is still where it was. -/
theorem PS.half {w W W' : World} {E F F' : Nat → Prop} {G R N : Nat} {M M' : DM} (h : PS w W E F G R N M) (hd : DW w W' F' G N M') (ht : Touch F W W') (hg : ∀ k, F' k → Grow F W W' k) : RDrum W' (Mue E F' R) R N M ∧ ¬ F' R := by
  have hR := h.r.rlt
  have hnf : ¬ F' R := fun hf => by
    rcases hg R hf with h1 | h1
    · exact h.nf h1
    · omega
  refine ⟨h.r.touch (Y := F) ht (fun k hk => .inl (.inl hk)) (ht.block R hR h.nf) (fun k hk => ?_) (fun k hk => ?_), hnf⟩
  · rcases hk with (hk | hk) | hk
    · rcases hg k hk with h1 | h1
      · exact .inl (.inl (.inl h1))
      · exact .inr h1
    · exact .inl (.inl (.inr hk))
    · exact .inl (.inr hk)
  · rcases hk with (hk | rfl) | hk
    · exact hd.drum.lt k hk
    · exact Nat.lt_of_lt_of_le hR ht.size
    · exact Nat.lt_of_lt_of_le (h.r.lt k (.inr hk)) ht.size
/-- The document's drum did its step, too. -/
theorem PS.both {w W W' : World} {E F : Nat → Prop} {G R N : Nat} {M : DM} (hd : DW w W F G N M) (hr : RDrum W' (Mue E F R) R N M) (hnf : ¬ F R) (hat : w.heap.size ≤ R) (ht : Touch (Only R) W W') : PS w W' E F G R N M :=
  ⟨⟨hd.drum.kept (fun k hk => ht.block k (hd.drum.lt k hk) (fun e => hnf (by have e' : k = R := e; rw [← e']; exact hk))) ht.size, hd.below.trans (ht.below (fun k e => by have e' : k = R := e; rw [e']; exact hat) hd.below.size), hd.since⟩, hr, hnf, hat⟩
/-- A block that neither has is written. -/
theorem RDrum.weak {W W' : World} {X X' : Nat → Prop} {R N : Nat} {M : DM} (h : RDrum W X R N M) (hb : Below W.heap.size W W') (hX : ∀ k, X' k → X k ∨ (W.heap.size ≤ k ∧ k < W'.heap.size)) : RDrum W' X' R N M :=
  h.touch (Y := fun _ => False) (Touch.of_below hb) (fun _ hf => hf.elim) (hb.block R h.rlt) hX (fun k hk => by
    rcases hX k hk with h1 | h1
    · exact Nat.lt_of_lt_of_le (h.lt k h1) hb.size
    · exact h1.2)
end Go.Proofs.Ytlkffignbjpfcaa
