/- Proved here: two pairs of drums, each of one mind, side by side: neither's step touches the other; how a clone and a twin become the second pair. -/
import Derived.Test.YtlkffignbjpfcaaQlNew
import Derived.Test.YtlkffignbjpfcaaQlaysT
import Derived.Test.YtlkffignbjpfcaaTwinKit
namespace Go.Proofs.Ytlkffignbjpfcaa
open Go.RowKit

structure Two (w W : World) (F1 : Nat → Prop) (G1 R1 : Nat) (M1 : DM) (F2 : Nat → Prop) (G2 R2 : Nat) (M2 : DM) (N : Nat) : Prop where
  a : PS w W (Mut F2 R2) F1 G1 R1 N M1
  b : PS w W (Mut F1 R1) F2 G2 R2 N M2
  ap : ∀ k, Mut F1 R1 k → Mut F2 R2 k → False
theorem Two.swap {w W : World} {F1 F2 : Nat → Prop} {G1 R1 G2 R2 N : Nat} {M1 M2 : DM} (h : Two w W F1 G1 R1 M1 F2 G2 R2 M2 N) : Two w W F2 G2 R2 M2 F1 G1 R1 M1 N := ⟨h.b, h.a, fun k x y => h.ap k y x⟩
theorem Two.on {w W W' : World} {F1 F2 : Nat → Prop} {G1 R1 G2 R2 N : Nat} {M1 M2 : DM} (h : Two w W F1 G1 R1 M1 F2 G2 R2 M2 N) (hb : Below W.heap.size W W') : Two w W' F1 G1 R1 M1 F2 G2 R2 M2 N := ⟨h.a.on hb, h.b.on hb, h.ap⟩
theorem PS.mlt {w W : World} {E F : Nat → Prop} {G R N : Nat} {M : DM} (h : PS w W E F G R N M) : ∀ k, Mut F R k → w.heap.size ≤ k ∧ k < W.heap.size := fun k hk => by
  rcases hk with hk | hk
  · exact ⟨h.d.since k hk, h.d.drum.lt k hk⟩
  · rw [hk]
    exact ⟨h.at_, h.r.rlt⟩
theorem Two.left {w W W' : World} {F1 F1' F2 : Nat → Prop} {G1 R1 G2 R2 N : Nat} {M1 M1' M2 : DM} (h : Two w W F1 G1 R1 M1 F2 G2 R2 M2 N) (ha : PS w W' (Mut F2 R2) F1' G1 R1 N M1') (ht : Touch (Mut F1 R1) W W') (hg : ∀ k, F1' k → Grow F1 W W' k) : Two w W' F1' G1 R1 M1' F2 G2 R2 M2 N := by
  have hout : ∀ k, Mut F2 R2 k → W'.heap[k]? = W.heap[k]? := fun k hk => ht.block k (h.b.mlt k hk).2 (fun h1 => h.ap k h1 hk)
  have hgr : ∀ k, Mut F1' R1 k → Mut F1 R1 k ∨ (W.heap.size ≤ k ∧ k < W'.heap.size) := fun k hk => by
    rcases hk with hk | hk
    · rcases hg k hk with h1 | h1
      · exact .inl (.inl h1)
      · exact .inr h1
    · exact .inl (.inr hk)
  refine ⟨ha, ⟨⟨h.b.d.drum.kept (fun k hk => hout k (.inl hk)) ht.size, h.b.d.below.trans (ht.below (fun k hk => (h.a.mlt k hk).1) h.b.d.below.size), h.b.d.since⟩, ?_, h.b.nf, h.b.at_⟩, fun k h1 h2 => ?_⟩
  · refine h.b.r.touch (Y := Mut F1 R1) ht (fun k hk => .inr hk) (hout R2 (.inr rfl)) (fun k hk => ?_) (fun k hk => ?_)
    · rcases hk with hk | hk
      · exact .inl (.inl hk)
      · rcases hgr k hk with h1 | h1
        · exact .inl (.inr h1)
        · exact .inr h1
    · rcases hk with hk | hk
      · exact Nat.lt_of_lt_of_le (h.b.mlt k hk).2 ht.size
      · exact (ha.mlt k hk).2
  · rcases hgr k h1 with h3 | h3
    · exact h.ap k h3 h2
    · have := (h.b.mlt k h2).2; omega
theorem Two.right {w W W' : World} {F1 F2 F2' : Nat → Prop} {G1 R1 G2 R2 N : Nat} {M1 M2 M2' : DM} (h : Two w W F1 G1 R1 M1 F2 G2 R2 M2 N) (hb : PS w W' (Mut F1 R1) F2' G2 R2 N M2') (ht : Touch (Mut F2 R2) W W') (hg : ∀ k, F2' k → Grow F2 W W' k) : Two w W' F1 G1 R1 M1 F2' G2 R2 M2' N :=
  (h.swap.left hb ht hg).swap
theorem PS.twin_in {w W W1 : World} {F F2 : Nat → Prop} {G R N : Nat} {M : DM} (h : PS w W (fun _ => False) F G R N M) (hb : Below W.heap.size W W1) (hF : ∀ k, F2 k → W.heap.size ≤ k ∧ k < W1.heap.size) : RDrum W1 (Mue F2 F R) R N M :=
  h.r.weak hb (fun k hk => hk.elim (fun h1 => .inl (.inl h1)) (fun h1 => .inr (hF k h1)))
theorem two_made {w W W1 W2 : World} {F F2 : Nat → Prop} {G G2 R N c d g q : Nat} {M : DM} {Vs Ws : List Value} (h : PS w W (fun _ => False) F G R N M) (hc : Drum W1 F2 G2 N M) (hb1 : Below W.heap.size W W1) (hF : ∀ k, F2 k → W.heap.size ≤ k)
    (o1 : W2.ownsRow W1.heap.size 33 1 (.slice (some ⟨g, 0, none⟩) N c) N Vs) (o2 : W2.ownsRow W1.heap.size 107 2 (.slice (some ⟨q, 0, none⟩) M.loose.length d) M.loose.length (rwV (M.loose.map (·.1)) Ws))
    (hr : ∀ i (h : i < M.safe.length), ∃ v, Vs[i]? = some v ∧ RowOut W1 (Mue F2 F R) v M.safe[i]) (hwl : Ws.length = M.loose.length) (hw : ∀ i (h : i < M.loose.length), ∃ v, Ws[i]? = some v ∧ RowOut W1 (Mue F2 F R) v M.loose[i].2) (hb2 : Below W1.heap.size W1 W2) :
    Two w (W2.alloc (.cells #[.slice (some ⟨g, 0, none⟩) N c, .slice (some ⟨q, 0, none⟩) M.loose.length d, .int .i64 (M.steps : Int), .int .i64 (fuseZ M.fuse), .bool M.down] 31)) F G R M F2 G2 W2.heap.size M N := by
  obtain ⟨W3, hW3⟩ : ∃ W3, W2.alloc (.cells #[.slice (some ⟨g, 0, none⟩) N c, .slice (some ⟨q, 0, none⟩) M.loose.length d, .int .i64 (M.steps : Int), .int .i64 (fuseZ M.fuse), .bool M.down] 31) = W3 := ⟨_, rfl⟩
  have bA : Below W2.heap.size W2 W3 := by rw [← hW3]; exact (Below.refl _ _).alloc (Nat.le_refl _) _
  have nA : W3.heap[W2.heap.size]? = some (.cells #[.slice (some ⟨g, 0, none⟩) N c, .slice (some ⟨q, 0, none⟩) M.loose.length d, .int .i64 (M.steps : Int), .int .i64 (fuseZ M.fuse), .bool M.down] 31 (0, 0)) := by rw [← hW3]; exact heap_alloc_new _ _
  have zA : W3.heap.size = W2.heap.size + 1 := by rw [← hW3]; simp
  rw [hW3]
  clear hW3
  have b12 : Below W1.heap.size W1 W3 := cat_b hb2 bA
  have b13 : Below W.heap.size W W3 := cat_b hb1 b12
  have z1 := hb1.size
  have z2 := hb2.size
  have hF2 := hc.lt
  have hml := h.mlt
  have og := o1.lt g rfl
  have oq := o2.lt q rfl
  have hout : ∀ k, W1.heap.size ≤ k → k < W2.heap.size → ¬ Mue (Mut F R) F2 W2.heap.size k := fun k h1 h2 hx => by
    rcases hx with (hx | hx) | hx
    · have := hF2 k hx; omega
    · omega
    · have := (hml k hx).2; omega
  have hrow : ∀ {v : Value} {row : ByteArray}, RowOut W1 (Mue F2 F R) v row → RowOut W3 (Mue (Mut F R) F2 W2.heap.size) v row := fun hq => hq.keep fun k cur hf hh => ⟨b12.block k (block_lt hh), fun hx => by
    have hl := block_lt hh
    rcases hx with (hx | hx) | hx
    · exact hf (.inr hx)
    · omega
    · exact hf (.inl hx)⟩
  refine ⟨⟨h.d.on b13, h.r.weak b13 (fun k hk => ?_), h.nf, h.at_⟩, ⟨⟨hc.below b12, cat_b h.d.below b13, fun k hk => Nat.le_trans h.d.below.size (hF k hk)⟩, ⟨some ⟨g, 0, none⟩, some ⟨q, 0, none⟩, c, d, Vs, Ws, ⟨nA, hc.ok, ?_, ?_, ?_, hwl, ?_, ?_, ?_, ?_, ?_⟩⟩, ?_, ?_⟩, ?_⟩
  · rcases hk with hk | hk
    · exact .inl (.inl hk)
    · rcases hk with hk | hk
      · have := hF k hk; have := hF2 k hk; exact .inr ⟨by omega, by omega⟩
      · exact .inr ⟨by omega, by omega⟩
  · exact own_base (owns_block o1 (fun k hk => bA.block k (o1.lt k hk).2)) (Nat.zero_le _)
  · intro i hi
    obtain ⟨v, hv, hq⟩ := hr i hi
    exact ⟨v, hv, hrow hq⟩
  · exact own_base (owns_block o2 (fun k hk => bA.block k (o2.lt k hk).2)) (Nat.zero_le _)
  · intro i hi
    obtain ⟨v, hv, hq⟩ := hw i hi
    exact ⟨v, hv, hrow hq⟩
  · intro k hk
    have := o1.lt k hk
    exact hout k this.1 this.2
  · intro k hk
    have := o2.lt k hk
    exact hout k this.1 this.2
  · intro k hk
    rcases hk with (hk | hk) | hk
    · have := hF2 k hk; omega
    · omega
    · have := (hml k hk).2; omega
  · obtain ⟨_, _, _, _, _, _, hd⟩ := hc
    exact ⟨hd.big.1, hd.big.2.2.2⟩
  · intro hf
    have := hF2 _ hf; omega
  · have := h.d.below.size; omega
  · intro k h1 h2
    have := (hml k h1).2
    rcases h2 with h2 | h2
    · have := hF k h2; omega
    · omega
end Go.Proofs.Ytlkffignbjpfcaa
