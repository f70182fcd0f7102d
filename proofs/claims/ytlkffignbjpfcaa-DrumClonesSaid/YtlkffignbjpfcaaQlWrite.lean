/- Proved here: the program's Write and the document's answer the same number, and their drums stay of one mind. -/
import Derived.Test.YtlkffignbjpfcaaQlKit
import Derived.Test.YtlkffignbjpfcaaByteTwin
import Derived.Test.YtlkffignbjpfcaaByteSame
namespace Go.Proofs.Ytlkffignbjpfcaa
open Go.RowKit

def WPost (w : World) (F : Nat → Prop) (G N : Nat) (M2 : DM) (cd : Int) (W : World) (e : Ending) (W' : World) : Prop := e = .returned (.int .i64 cd) ∧ ∃ F2, DW w W' F2 G N M2 ∧ Touch F W W' ∧ ∀ k, F2 k → Grow F W W' k
def WriteD (w : World) (F : Nat → Prop) (G N : Nat) (M M2 : DM) (n cd : Int) (s : ByteArray) : Prop := ∀ W g cap, DW w W F G N M → HoldsB W (some ⟨g, 0, none⟩) s → ¬ F g → Calls Try.prog 23 #[.pointer (some ⟨G, 0, none⟩), .int .i64 n, .slice (some ⟨g, 0, none⟩) s.size cap] W (WPost w F G N M2 cd W)
def WriteR (R N : Nat) (M M2 : DM) (n cd : Int) (s : ByteArray) : Prop := ∀ (W : World) (X : Nat → Prop) (p : Option Addr) (cap : Nat), RDrum W X R N M → X R → HoldsB W p s → (∀ a, p = some a → a.block ≠ R) → Calls Try.prog 29 #[.pointer (some ⟨R, 0, none⟩), .int .i64 n, .slice p s.size cap] W fun e W' => e = .returned (.int .i64 cd) ∧ RDrum W' X R N M2 ∧ Touch (Only R) W W'

theorem writes_any (w : World) (F : Nat → Prop) (G R N b : Nat) (M : DM) (hs : Small M b) (hb : b ≤ 2000) (n : Int) (s : ByteArray) : ∃ (cd : Int) (M2 : DM), 0 ≤ cd ∧ cd ≤ 9 ∧ Small M2 (b + 1) ∧ WriteD w F G N M M2 n cd s ∧ WriteR R N M M2 n cd s := by
  have ht := hs.tame (by omega)
  by_cases hnr : 0 ≤ n ∧ n < N
  · obtain ⟨n1, rfl⟩ : ∃ n1 : Nat, n = (n1 : Int) := ⟨n.toNat, by omega⟩
    have hn : n1 < N := by omega
    by_cases hz : s.size ≤ 64
    · by_cases hoff : M.off = true
      · refine ⟨9, M.step, by omega, by omega, hs.step, ?_, ?_⟩
        · intro W g cap hd _ _
          exact (dwrite_off hd ht hoff n1 hn _ _ _ hz).mono fun e W' ⟨h1, h2, h3⟩ => ⟨h1, F, h2, h3.mono (only_F hd.drum.fG), fun k hk => .inl hk⟩
        · intro W X p cap hr hX _ _
          exact rwrite_off W X R N M hr hX hoff n1 hn p s.size cap hz
      · have hoff : M.off = false := by simpa using hoff
        refine ⟨0, M.write n1 s, by omega, by omega, hs.write, ?_, ?_⟩
        · intro W g cap hd hp hg
          exact dwrite_ok hd ht hoff n1 hn g s cap hp hz hg
        · intro W X p cap hr hX hp hsep
          exact rwrite_ok W X R N M hr hX ht hoff n1 hn p s cap hp hz hsep
    · refine ⟨6, M, by omega, by omega, hs.mono (by omega), ?_, ?_⟩
      · intro W g cap hd _ _
        exact (write_long W F G N M hd.drum n1 hn _ _ _ (by omega)).mono fun e W' ⟨h1, h2⟩ => ⟨h1, F, h2 ▸ hd, h2 ▸ Touch.refl _ _, fun k hk => .inl hk⟩
      · intro W X p cap hr hX _ _
        exact (rwrite_long W X R N M hr n1 hn p s.size cap (by omega)).mono fun e W' ⟨h1, h2⟩ => ⟨h1, h2 ▸ hr, h2 ▸ Touch.refl _ _⟩
  · refine ⟨1, M, by omega, by omega, hs.mono (by omega), ?_, ?_⟩
    · intro W g cap hd _ _
      exact (write_arg W F G N M hd.drum n (by omega) _ _ _).mono fun e W' ⟨h1, h2⟩ => ⟨h1, F, h2 ▸ hd, h2 ▸ Touch.refl _ _, fun k hk => .inl hk⟩
    · intro W X p cap hr hX _ _
      exact (rwrite_arg W X R N M hr n (by omega) p s.size cap).mono fun e W' ⟨h1, h2⟩ => ⟨h1, h2 ▸ hr, h2 ▸ Touch.refl _ _⟩

theorem RDrum.half2 {w W5 W6 : World} {E F F2 : Nat → Prop} {G R N g : Nat} {M M2 : DM} (hr : RDrum W5 (fun k => Mue E F R k ∨ k = g) R N M) (hnf : ¬ F R) (hd : DW w W6 F2 G N M2) (ht : Touch F W5 W6) (hg : ∀ k, F2 k → Grow F W5 W6 k) : RDrum W6 (fun k => Mue E F2 R k ∨ k = g) R N M ∧ ¬ F2 R := by
  have hR := hr.rlt
  have hnf2 : ¬ F2 R := fun hf => by
    rcases hg R hf with h1 | h1
    · exact hnf h1
    · omega
  refine ⟨hr.touch (Y := F) ht (fun k hk => .inl (.inl (.inl hk))) (ht.block R hR hnf) (fun k hk => ?_) (fun k hk => ?_), hnf2⟩
  · rcases hk with ((hk | hk) | hk) | hk
    · rcases hg k hk with h1 | h1
      · exact .inl (.inl (.inl (.inl h1)))
      · exact .inr h1
    · exact .inl (.inl (.inl (.inr hk)))
    · exact .inl (.inl (.inr hk))
    · exact .inl (.inr hk)
  · rcases hk with ((hk | rfl) | hk) | hk
    · exact hd.drum.lt k hk
    · exact Nat.lt_of_lt_of_le hR ht.size
    · exact Nat.lt_of_lt_of_le (hr.lt k (.inl (.inr hk))) ht.size
    · exact Nat.lt_of_lt_of_le (hr.lt k (.inr hk)) ht.size
theorem Owns.touch {w w' : World} {Y : Nat → Prop} {B g cap : Nat} {s : ByteArray} (h : Owns w B g cap s) (ht : Touch Y w w') (hY : ¬ Y g) : Owns w' B g cap s :=
  ⟨owns_block h.1 (fun k hk => by have e : g = k := by simpa [Value.ownBlock] using hk
                                  subst e; exact ht.block g h.2.2.1 hY), h.2.1, Nat.lt_of_lt_of_le h.2.2.1 ht.size, h.2.2.2⟩
/-- The end of a step: a block of the law's own was written. -/
theorem PS.end_ {w W W' : World} {E F : Nat → Prop} {G R N g : Nat} {M : DM} (hd : DW w W F G N M) (hr : RDrum W (fun k => Mue E F R k ∨ k = g) R N M) (hnf : ¬ F R) (hat : w.heap.size ≤ R) (hg : w.heap.size ≤ g) (hgF : ¬ F g) (hgR : g ≠ R) (ht : Touch (Only g) W W') : PS w W' E F G R N M := by
  refine ⟨⟨hd.drum.kept (fun k hk => ht.block k (hd.drum.lt k hk) (fun e => hgF (by have e' : k = g := e; rw [← e']; exact hk))) ht.size, hd.below.trans (ht.below (fun k e => by have e' : k = g := e; rw [e']; exact hg) hd.below.size), hd.since⟩, ?_, hnf, hat⟩
  exact hr.touch (Y := Only g) ht (fun k e => .inr e) (ht.block R hr.rlt (fun e => hgR e.symm)) (fun k hk => .inl (.inl hk)) (fun k hk => Nat.lt_of_lt_of_le (hr.lt k (.inl hk)) ht.size)
theorem written_end {w W5 W6 W7 W8 : World} {E F F2 : Nat → Prop} {G R N B g cap : Nat} {M M2 : DM} {s : ByteArray} (h : PS w W5 E F G R N M) (hr : RDrum W5 (fun k => Mue E F R k ∨ k = g) R N M) (ho : Owns W5 B g cap (s ++ ⟨#[165]⟩)) (hgR : g ≠ R) (hgF : ¬ F g) (hwg : w.heap.size ≤ g)
    (hN : DW w W6 F2 G N M2) (ht6 : Touch F W5 W6) (hG6 : ∀ k, F2 k → Grow F W5 W6 k) (hb7 : Below W6.heap.size W6 W7) (hr8 : RDrum W8 (fun k => Mue E F2 R k ∨ k = g) R N M2) (ht8 : Touch (Only R) W7 W8) :
    Owns W8 B g cap (s ++ ⟨#[165]⟩) ∧ Below w.heap.size w W8 ∧ W8.there g 0 s.size ∧ ∀ W', Touch (Only g) W8 W' → PS w W' E F2 G R N M2 := by
  have hnf2 := (hr.half2 h.nf hN ht6 hG6).2
  have ho8 : Owns W8 B g cap (s ++ ⟨#[165]⟩) := ((ho.touch ht6 hgF).far hb7).touch ht8 (fun e => hgR e)
  have hd8 : DW w W8 F2 G N M2 := (PS.both (hN.on hb7) (hr8.touch (Y := fun _ => False) (Touch.refl _ _) (fun _ hf => hf.elim) rfl (fun k hk => .inl (.inl hk)) (fun k hk => hr8.lt k (.inl hk))) hnf2 h.at_ ht8).d
  have hgF2 : ¬ F2 g := fun hf => (hG6 g hf).elim hgF (fun h1 => by have := ho.2.2.1; omega)
  refine ⟨ho8, hd8.below, ?_, fun W' ht => PS.end_ hd8 hr8 hnf2 h.at_ hwg hgF2 hgR ht⟩
  intro j hj
  obtain ⟨b, off, e, hc⟩ := ho8.holds (by rw [size_push]; omega)
  injection e with e
  injection e with e1 e2
  subst e1 e2
  refine ⟨by rw [hc j (by rw [size_push]; omega)]; rfl, ?_⟩
  rw [Nat.zero_add]
  exact World.ownsRow.frozenAt ho8.1 j
end Go.Proofs.Ytlkffignbjpfcaa
