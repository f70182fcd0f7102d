/- Proved here: a drum that was made since a world, and what its calls make of it. -/
import Derived.Test.YtlkffignbjpfcaaDrumNew
import Derived.Test.YtlkffignbjpfcaaDrumCrash
namespace Go.Proofs.Ytlkffignbjpfcaa
open Go.RowKit

theorem cat_b {a b c : World} (h : Below a.heap.size a b) (k : Below b.heap.size b c) : Below a.heap.size a c := h.trans (k.mono h.size)
/-- A drum that was made since w. -/
structure DW (w W : World) (F : Nat → Prop) (G N : Nat) (M : DM) : Prop where
  drum : Drum W F G N M
  below : Below w.heap.size w W
  since : ∀ k, F k → w.heap.size ≤ k
theorem Drum.fG {W : World} {F : Nat → Prop} {G N : Nat} {M : DM} (h : Drum W F G N M) : F G := by
  obtain ⟨_, _, _, _, _, _, hd⟩ := h
  exact hd.fG
theorem Drum.lt {W : World} {F : Nat → Prop} {G N : Nat} {M : DM} (h : Drum W F G N M) : ∀ k, F k → k < W.heap.size := by
  obtain ⟨_, _, _, _, _, _, hd⟩ := h
  exact hd.lt
theorem Drum.ok {W : World} {F : Nat → Prop} {G N : Nat} {M : DM} (h : Drum W F G N M) : M.Ok N := by
  obtain ⟨_, _, _, _, _, _, hd⟩ := h
  exact hd.ok
theorem DW.on {w W W' : World} {F : Nat → Prop} {G N : Nat} {M : DM} (h : DW w W F G N M) (hb : Below W.heap.size W W') : DW w W' F G N M := ⟨h.drum.below hb, cat_b h.below hb, h.since⟩
theorem DW.alloc {w W : World} {F : Nat → Prop} {G N : Nat} {M : DM} (h : DW w W F G N M) (o : Obj) : DW w (W.alloc o) F G N M := h.on ((Below.refl _ _).alloc (Nat.le_refl _) o)
theorem DW.next {w W W' : World} {F F' : Nat → Prop} {G N : Nat} {M M' : DM} (h : DW w W F G N M) (hd : Drum W' F' G N M') (ht : Touch F W W') (hg : ∀ k, F' k → Grow F W W' k) : DW w W' F' G N M' :=
  ⟨hd, h.below.trans (ht.below h.since h.below.size), fun k hk => by
    rcases hg k hk with h1 | h1
    · exact h.since k h1
    · exact Nat.le_trans h.below.size h1.1⟩
theorem DW.same {w W W' : World} {F : Nat → Prop} {G N : Nat} {M M' : DM} (h : DW w W F G N M) (hd : Drum W' F G N M') (ht : Touch F W W') : DW w W' F G N M' := h.next hd ht (fun k hk => .inl hk)
theorem DW.only {w W W' : World} {F : Nat → Prop} {G N : Nat} {M M' : DM} (h : DW w W F G N M) (hd : Drum W' F G N M') (ht : Touch (Only G) W W') : DW w W' F G N M' := h.same hd (ht.mono (only_F h.drum.fG))
theorem DW.old {w W : World} {F : Nat → Prop} {G N : Nat} {M : DM} (h : DW w W F G N M) {k : Nat} (hk : k < w.heap.size) : ¬ F k := fun f => by have := h.since k f; omega
theorem DW.new {w W : World} {F : Nat → Prop} {G N : Nat} {M : DM} (h : DW w W F G N M) {k : Nat} (hk : W.heap.size ≤ k) : ¬ F k := fun f => by have := h.drum.lt k f; omega

/-- One byte is written. -/
theorem write1 {w W : World} {F : Nat → Prop} {G N : Nat} {M : DM} (h : DW w W F G N M) (hst : M.steps ≤ 4611686018427387904) (hfu : M.fuse.getD 0 ≤ 9223372036854775807) (hoff : M.off = false) (n : Nat) (hn : n < N) (x : UInt8) (T : TypeId) (fr : Nat × Nat) (hlo : (M.loose.length + 1) * 72 ≤ 140737488355328) :
    Calls Try.prog 23 #[.pointer (some ⟨G, 0, none⟩), .int .i64 (n : Int), .slice (some ⟨W.heap.size, 0, none⟩) 1 1] (W.alloc (.cells #[.int .u8 (x.toNat : Int)] T fr)) fun e W' => e = .returned (.int .i64 0) ∧ ∃ F', DW w W' F' G N (M.write n ⟨#[x]⟩) := by
  have ha := h.alloc (.cells #[.int .u8 (x.toNat : Int)] T fr)
  have hp : HoldsB (W.alloc (.cells #[.int .u8 (x.toNat : Int)] T fr)) (some ⟨W.heap.size, 0, none⟩) ⟨#[x]⟩ := fun _ => ⟨W.heap.size, 0, rfl, fun j hj => by
    have hj0 : j = 0 := by
      have : j < 1 := hj
      omega
    subst hj0
    rw [cell_of_row _ _ _ _ _ _ (heap_alloc_new W _)]
    rfl⟩
  refine (write_ok _ F G N M ha.drum hst hfu hoff n hn (some ⟨W.heap.size, 0, none⟩) ⟨#[x]⟩ 1 hp (by show 1 ≤ 64; decide) (fun a e => ?_) hlo).mono ?_
  · injection e with e
    rw [← e]
    exact h.new (Nat.le_refl _)
  · rintro e W' ⟨h1, F', h2, h3, h4⟩
    exact ⟨h1, F', ha.next h2 h3 h4⟩
theorem Owns.cell0 {w : World} {B g cap : Nat} {s : ByteArray} {x : UInt8} (h : Owns w B g cap s) (hs : 0 < s.size) (hx : s.get! 0 = x) : w.cell? ⟨g, 0, none⟩ = some (.int .u8 (x.toNat : Int)) := by
  obtain ⟨b, off, e, hc⟩ := h.holds hs
  have := hc 0 hs
  injection e with e
  injection e with e1 e2
  subst e1 e2
  rw [← hx]
  exact this
end Go.Proofs.Ytlkffignbjpfcaa
