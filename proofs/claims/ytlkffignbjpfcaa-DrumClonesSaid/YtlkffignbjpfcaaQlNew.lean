/- Proved here: two new drums, side by side, are of one mind. -/
import Derived.Test.YtlkffignbjpfcaaQlWrite
namespace Go.Proofs.Ytlkffignbjpfcaa
open Go.RowKit

theorem boxed_new {w W W' : World} {F : Nat → Prop} {G n c : Nat} {s : Option Addr} {Vs : List Value} (hd : DW w W F G n (newM n)) (h1 : 0 < n) (h2 : n ≤ 16384) (ho : W'.ownsRow W.heap.size 33 1 (.slice s n c) n Vs)
    (hr : ∀ i, i < n → ∃ v, Vs[i]? = some v ∧ RowOut W' (fun k => k < W.heap.size) v (zeroB 64)) (hb : Below W.heap.size W W') :
    PS w (W'.alloc (.cells #[.slice s n c, .slice none 0 0, .int .i64 0, .int .i64 (-1), .bool false] 31)) (fun _ => False) F G W'.heap.size n (newM n) := by
  have hd' := hd.on hb
  have hlt := hd.drum.lt
  have ho0 : W'.ownsRow 0 33 1 (.slice s n c) n Vs := by
    rcases ho.2 with ⟨e1, e2⟩ | ⟨g', c', cur, e, _, hh, hr⟩
    · exact ⟨ho.1, .inl ⟨e1, e2⟩⟩
    · exact ⟨ho.1, .inr ⟨g', c', cur, e, Nat.zero_le _, hh, hr⟩⟩
  have hbk : ∀ k, k < W'.heap.size → (W'.alloc (.cells #[.slice s n c, .slice none 0 0, .int .i64 0, .int .i64 (-1), .bool false] 31)).heap[k]? = W'.heap[k]? := fun k hk => ((Below.refl W'.heap.size W').alloc (Nat.le_refl _) _).block k hk
  have hls : (newM n).safe = List.replicate n (zeroB 64) := rfl
  refine ⟨hd'.alloc _, ⟨s, none, c, 0, Vs, [], ⟨heap_alloc_new W' _, newM_ok n, owns_block ho0 (fun k hk => hbk k (ho.lt k hk).2), ?_, World.ownsRow_nil _ _ _ _, rfl, (fun i hi => by cases hi), fun k hk hx => ?_, (fun k hk => by cases hk), fun k hx => ?_, ⟨h2, h1⟩⟩⟩, fun hf => ?_, Nat.le_trans hd.below.size hb.size⟩
  · intro i hi
    rw [hls, List.length_replicate] at hi
    obtain ⟨v, hv, hq⟩ := hr i hi
    refine ⟨v, hv, ?_⟩
    have e : (newM n).safe[i]'(by rw [hls, List.length_replicate]; exact hi) = zeroB 64 := by simp [newM]
    rw [e]
    refine hq.keep fun g cur hf hh => ⟨hbk g (block_lt hh), fun hx => ?_⟩
    rcases hx.resolve_right (fun f => f) with hx | hx
    · exact hf (hlt g hx)
    · have := block_lt hh; omega
  · have h3 := ho.lt k hk
    rcases hx.resolve_right (fun f => f) with hx | hx
    · have := hlt k hx; omega
    · omega
  · rcases hx.resolve_right (fun f => f) with hx | hx
    · have := hlt k hx; have := hb.size; simp; omega
    · simp; omega
  · have := hlt _ hf; have := hb.size; omega
theorem small_new (n : Nat) : Small (newM n) 0 := ⟨Nat.le_refl _, Nat.le_refl _, Nat.zero_le _⟩
end Go.Proofs.Ytlkffignbjpfcaa
